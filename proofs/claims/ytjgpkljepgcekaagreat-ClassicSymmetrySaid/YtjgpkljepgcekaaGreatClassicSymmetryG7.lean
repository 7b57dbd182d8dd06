/- Contracts of functions of the program, and what they lean on: D30, D32, D35, D34, D36, Xq, Cd, D33, D37, Dt, Fa, Fb, Fg, Fp, Fk. -/
import Derived.Test.YtjgpkljepgcekaaGreatClassicSymmetryG6
import Derived.Lib.AppendZeros
set_option linter.unusedSimpArgs false
set_option linter.unusedVariables false
set_option maxRecDepth 4000
set_option maxHeartbeats 4000000
namespace Go.Proofs.YtjgpkljepgcekaaGreat
open Go.RowKit
def YL (n : Int) (Q : Bool -> Prop) : Prop :=
  (((1 : Int) <= n) -> (Q (decide (n <= 64)))) /\ (¬ ((1 : Int) <= n) -> Q false)
theorem Jde {w : World} {Q : Bool -> Prop} {n : Int}  (hv : YL n Q) :
   Calls Tryz.prog 58 #[.int .i64 n] w <| Rt w fun v Qr => ∃ (r0 : Bool), v = .bool r0 /\ Qr = [] /\ Q r0 := by
 refine Jk <| Jh (vs := [nI n]) [2] XF58 rfl rfl rfl rfl ?_; have hS := Jp w; unfold YL at hv; refine Jc 8 <| Jl rfl rfl ?_; by_cases g11 : (1 : Int) <= n
 .have hv := hv.1 g11; rw [decide_eq_true g11]; refine Jb 7 <| W.ret <| ⟨_, rfl, Fin.nil ?_⟩
  exact (hS.pick [] rfl).fin rfl ⟨(decide (n <= 64)), rfl, rfl, hv⟩
 have hv := hv.2 g11; rw [decide_eq_false g11]; refine Jb 5 <| W.ret <| ⟨_, rfl, Fin.nil ?_⟩
 exact (hS.pick [] rfl).fin rfl ⟨false, rfl, rfl, hv⟩
def Jdg (Pc : Int) (Mc : Int) (mc : LI) (Nc : Int) (c : LL) (Q : Unit -> Prop) : Prop :=
  Q ()
theorem Jbq {w : World} {Q : Unit -> Prop} {Pc : Int} {Mc : Int} {mc : LI} {Nc : Int} {c : LL} {Bcf : Nat} {Acf : Option Addr} {ncf kcf : Nat} (hcf : Rd Bcf w 1 Acf ncf kcf (is mc)) {Ac : Option Addr} {nc kc : Nat} (hc : Rl w Ac nc kc c) (hv : Jdg Pc Mc mc Nc c Q) :
  Calls Tryz.prog 33 #[.agg #[.int .i64 Pc, .int .i64 Mc, .slice Acf ncf kcf, .int .i64 Nc, .slice Ac nc kc]] w <| Rt w fun v Qr => v = .agg #[.int .i64 Nc, .slice Ac c.length kc] /\ Qr = [] /\ Q () := by
 have hncf := hcf.ilen; subst hncf; have hnc := hc.len; subst hnc; obtain ⟨hsc, hHc⟩ := hc.heads; refine Jk <| Qs (vs := [.agg #[nI Pc, nI Mc, nS Acf mc kcf, nI Nc, nS Ac c kc]]) [.cell 2 52] XF33 rfl rfl rfl rfl ?_; have hS := Jp w; unfold Jdg at hv; refine Jc 2 <| JC (z := 5) (cs := [nI Pc, nI Mc, nS Acf mc kcf, nI Nc, nS Ac c kc]) hS rfl rfl rfl rfl ?_; intro g11 w12 hS; refine SL.alloc (cs := [nI 0, .slice none 0 0]) hS J7 rfl rfl ?_; intro g13 w14 hS; refine Ja <| Jc 2 <| Je (off := 3) Jbd rfl rfl <| Jm 1 3 XU3 hS rfl rfl rfl ⟨rfl, rfl⟩ <| Je (off := 4) Jh3 rfl rfl <| Jm 1 4 Jy hS rfl rfl rfl ⟨rfl, rfl⟩ <| Qd (cells := #[nI Nc, nS Ac c kc]) Jh2 rfl rfl rfl <| JH (cs := [nI Nc, nS Ac c kc]) 0 hS rfl J7 rfl rfl rfl rfl rfl ?_; intro w15 hS; refine Ja <| W.ret ?_
 repeat with_reducible first | refine blk.ret ?_ | refine exits.retI ?_
 refine endC.mk ⟨[.agg #[nI Nc, nS Ac c kc]], ⟨_, _, _, rfl, rfl, JM (cs := [nI Nc, nS Ac c kc]) J7 QX rfl (JE (hS.own (i := 0) rfl)), rfl⟩, ?_⟩; exact (hS.pick [] rfl).fin rfl ⟨rfl, rfl, hv⟩
def Jcb (Pc : Int) (Mc : Int) (mc : LI) (Nc : Int) (c : LL) (Q : Int -> Prop) : Prop :=
  Jca Pc Mc mc (fun r14 => ((r14 ≠ 0) -> Q r14) /\ (¬ (r14 ≠ 0) -> (YL Nc (fun r17 => (((!r17) = true) -> (Q 4)) /\ ((!r17) = false -> (∃ (r25 : Int), ZX Pc Mc mc Nc c (fun q => q = r25) /\ Q r25))))))
theorem Jq7 {w : World} {Q : Int -> Prop} {Pc : Int} {Mc : Int} {mc : LI} {Nc : Int} {c : LL} {Bcf : Nat} {Acf : Option Addr} {ncf kcf : Nat} (hcf : Rd Bcf w 1 Acf ncf kcf (is mc)) {Ac : Option Addr} {nc kc : Nat} (hc : Rl w Ac nc kc c) (hv : Jcb Pc Mc mc Nc c Q) :
   Calls Tryz.prog 31 #[.agg #[.int .i64 Pc, .int .i64 Mc, .slice Acf ncf kcf, .int .i64 Nc, .slice Ac nc kc]] w <| Rt w fun v Qr => ∃ (r0 : Int), v = .int .i64 r0 /\ Qr = [] /\ Q r0 := by
 have hncf := hcf.ilen; subst hncf; have hnc := hc.len; subst hnc; obtain ⟨hsc, hHc⟩ := hc.heads; refine Jk <| Jh (vs := [.agg #[nI Pc, nI Mc, nS Acf mc kcf, nI Nc, nS Ac c kc]]) [2] XF31 rfl rfl rfl rfl ?_; have hS := Jp w; unfold Jcb at hv; refine Jc 2 <| JC (z := 5) (cs := [nI Pc, nI Mc, nS Acf mc kcf, nI Nc, nS Ac c kc]) hS rfl rfl rfl rfl ?_; intro g11 w12 hS; refine Jb 2 <| Jc 3 <| Je (off := 0) ZW rfl rfl <| QB (cs := [nI Pc, nI Mc, nS Acf mc kcf]) JY J1 rfl rfl (ZI (hS.rd (i := 0) rfl) 0 rfl) rfl <| SL.call hS (Jjg (hS.ro hcf) hv) XF26 rfl XN26 rfl rfl ?_; rintro _ _ w13 ⟨r14, rfl, rfl, hv⟩ hGw13 hS; have hS := hS.n0; refine Jb 2 <| Jc 5 <| Jf rfl (fun c15 => ?_) (fun c15 => ?_)
 .have hv := hv.1 (oT c15); refine Jc 5 <| W.ret <| ⟨_, rfl, Fin.nil ?_⟩
  exact (hS.pick [] rfl).fin rfl ⟨r14, rfl, rfl, hv⟩
 have hv := hv.2 (oF c15); refine Ji <| Jc 3 <| Je (off := 3) Jbd rfl rfl <| Jm 0 3 XU3 hS rfl rfl rfl ⟨rfl, rfl⟩ <| SL.call hS (Jde  hv) XF58 rfl XN58 rfl rfl ?_; rintro _ _ w16 ⟨r17, rfl, rfl, hv⟩ hGw16 hS; have hS := hS.n0; refine Jb 2 <| Jf rfl (fun c18 => ?_) (fun c18 => ?_)
 .have hv := hv.1 (c18); refine Jc 4 <| W.ret <| ⟨_, rfl, Fin.nil ?_⟩
  exact (hS.pick [] rfl).fin rfl ⟨(4 : Int), rfl, rfl, hv⟩
 have hv := hv.2 (c18); refine Ji <| Js ?_; obtain ⟨r25, o27, hv⟩ := hv; refine JN 6 [⟨[], [1], true⟩, ⟨[0], [], false⟩, ⟨[], [1], false⟩, ⟨[2], [], false⟩, ⟨[1, 3], [], false⟩, ⟨[4], [], true⟩] [(14, nP g11), (15, .agg #[nI Pc, nI Mc, nS Acf mc kcf]), (16, .agg #[nI Pc, nI Mc, nS Acf mc kcf, nI Nc, nS Ac c kc]), (17, .agg #[nI Nc, nS Ac c kc]), (18, nI r25), (2, nI r25)] Jr (by kernel_rfl) rfl rfl ?_ ?_
 . refine ⟨fun _ _ _ => Je (off := 0) ZW rfl rfl <| Ja ⟨rfl, rfl⟩, og hS fun _ _ hS => QB (cs := [nI Pc, nI Mc, nS Acf mc kcf]) JY J1 rfl rfl (ZI (hS.rd (i := 0) rfl) 0 rfl) rfl <| Ja ⟨rfl, Jd _⟩, og hS fun _ _ hS => JF 0 QE Zy hS rfl ⟨rfl, rfl⟩ rfl <| Ja ⟨rfl, Jd _⟩, ?_, ?_, oD, trivial⟩
   .intro w22 hE RR; have hS := hS.grow (hE rfl); refine WL.call XF33 rfl XN33 rfl rfl (JJ (Jbq (Q := fun _ => True) (hS.ro hcf) (RlH.rl (RlH.ext hHc hS.ext)) trivial)) ?_; rintro _ w23 ⟨_, hGw23, hRww23, hNww23, rfl, rfl, _⟩; exact Ja ⟨rfl, hGw23⟩
   intro w24 hE RR; have hS := hS.grow (hE rfl); refine WL.call XF65 rfl XN65 rfl rfl (JJ (Jf0 (hS.ro hcf) (RlH.rl (RlH.ext hHc hS.ext)) o27)) ?_; rintro _ w26 ⟨_, hGw26, hRww26, hNww26, r25q, rfl, rfl, he⟩; subst he; exact Ja ⟨rfl, hGw26⟩
 intro w29 hT; have hS := hS.grow hT; refine JL <| W.ret <| ⟨_, rfl, Fin.nil ?_⟩
 exact (hS.pick [] rfl).fin rfl ⟨r25, rfl, rfl, hv⟩
def Jc6 (Pf : Int) (Mf : Int) (mf : LI) (Cm : Int) (m : LL) (e : Int) (Q : Option LI × Int -> Prop) : Prop :=
  ((e ≠ 0) -> (Q (none, e))) /\ (¬ (e ≠ 0) -> (Yo mf (fun x20 => Q (some x20, (0 : Int)))))
theorem Jo8 {w : World} {Q : Option LI × Int -> Prop} {Pf : Int} {Mf : Int} {mf : LI} {Cm : Int} {m : LL} {e : Int} {Bf : Nat} {Af : Option Addr} {nf kf : Nat} (hf : Rd Bf w 1 Af nf kf (is mf)) {Am : Option Addr} {nm km : Nat} (hm : Rl w Am nm km m) (hv : Jc6 Pf Mf mf Cm m e Q) :
   Calls Tryz.prog 34 #[.agg #[.int .i64 Pf, .int .i64 Mf, .slice Af nf kf], .agg #[.int .i64 Cm, .slice Am nm km], .int .i64 e] w <| Rt w fun v Qr => ∃ (o : Option LI) (e2 : Int), Q (o, e2) /\ match o with | none => v = .tuple #[.agg #[.int .i64 0, .int .i64 0, .slice none 0 0, .int .i64 0, .slice none 0 0], .int .i64 e2] /\ Qr = [] | some x => ∃ (A : Option Addr) (c : Nat), v = .tuple #[.agg #[.int .i64 Pf, .int .i64 Mf, .slice A x.length c, .int .i64 Cm, .slice Am m.length km], .int .i64 0] /\ Qr = [.row 3 1 A x.length c (is x)] /\ e2 = 0 := by
 have hnf := hf.ilen; subst hnf; have hnm := hm.len; subst hnm; obtain ⟨hsm, hHm⟩ := hm.heads; refine Jk <| Qs (vs := [.agg #[nI Pf, nI Mf, nS Af mf kf], .agg #[nI Cm, nS Am m km], nI e]) [.cell 6 27, .tmp 7] XF34 rfl rfl rfl rfl ?_; have hS := Jp w; unfold Jc6 at hv; refine Jc 2 <| JC (z := 3) (cs := [nI Pf, nI Mf, nS Af mf kf]) hS rfl rfl rfl rfl ?_; intro g11 w12 hS; refine JC (z := 2) (cs := [nI Cm, nS Am m km]) hS rfl rfl rfl rfl ?_; intro g13 w14 hS; refine SL.alloc (cs := [nI 0, nI 0, .slice none 0 0, nI 0, .slice none 0 0]) hS QE rfl rfl ?_; intro g15 w16 hS; refine Jb 2 <| Jc 6 <| Jf rfl (fun c17 => ?_) (fun c17 => ?_)
 .have hv := hv.1 (oT c17); refine Jc 2 <| Qd (cells := #[nI 0, nI 0, .slice none 0 0, nI 0, .slice none 0 0]) XB27 rfl rfl rfl <| Jl rfl rfl <| JH (cs := [nI 0, nI 0, .slice none 0 0, nI 0, .slice none 0 0]) 0 hS rfl QE rfl rfl rfl rfl rfl ?_; intro w18 hS; refine Jb 2 <| W.ret ?_
  repeat with_reducible first | refine blk.ret ?_ | refine exits.retI ?_
  refine endC.mk ⟨[.agg #[nI 0, nI 0, .slice none 0 0, nI 0, .slice none 0 0], nI e], ⟨_, _, _, rfl, rfl, JM (cs := [nI 0, nI 0, .slice none 0 0, nI 0, .slice none 0 0]) QE Zy rfl (JE (hS.own (i := 0) rfl)), ⟨_, _, rfl, rfl, rfl⟩⟩, ?_⟩; exact (hS.pick [] rfl).fin rfl ⟨none, e, hv, rfl, rfl⟩
 have hv := hv.2 (oF c17); refine Ji <| Jc 2 <| Je (off := 2) QU rfl rfl <| Jm 2 2 Jo hS rfl rfl rfl ⟨rfl, rfl⟩ <| SL.call hS (YE (hS.ro hf) hv) Jkj rfl Jm0 rfl rfl ?_; rintro _ _ w19 ⟨x20, A21, k22, rfl, rfl, hv⟩ hGw19 hS; have hS := hS.n1; refine Je (off := 2) QU rfl rfl <| JB (cs' := [nI Pf, nI Mf, nS A21 x20 k22]) 3 2 hS rfl Jw rfl rfl rfl (QS rfl) rfl ?_; intro w24 hS; refine Ja <| Jc 2 <| JF 3 JY J1 hS rfl ⟨rfl, rfl⟩ rfl <| Je (off := 0) Q2 rfl rfl <| Jm 2 0 XU3 hS rfl rfl rfl ⟨rfl, rfl⟩ <| Je (off := 1) Qt rfl rfl <| Jm 2 1 Jy hS rfl rfl rfl ⟨rfl, rfl⟩ <| Qd (cells := #[nI Pf, nI Mf, nS A21 x20 k22, nI Cm, nS Am m km]) XB27 rfl rfl rfl <| JH (cs := [nI Pf, nI Mf, nS A21 x20 k22, nI Cm, nS Am m km]) 1 hS rfl QE rfl rfl rfl rfl rfl ?_; intro w25 hS; refine Jb 2 <| W.ret ?_
 repeat with_reducible first | refine blk.ret ?_ | refine exits.retI ?_
 refine endC.mk ⟨[.agg #[nI Pf, nI Mf, nS A21 x20 k22, nI Cm, nS Am m km], nI 0], ⟨_, _, _, rfl, rfl, JM (cs := [nI Pf, nI Mf, nS A21 x20 k22, nI Cm, nS Am m km]) QE Zy rfl (JE (hS.own (i := 1) rfl)), ⟨_, _, rfl, rfl, rfl⟩⟩, ?_⟩; exact (hS.pick [0] rfl).fin rfl ⟨some x20, 0, hv, A21, k22, rfl, rfl, rfl⟩
def Jid (Pf : Int) (Mf : Int) (mf : LI) (Cm : Int) (m : LL) (Q : Int × Int × LI × Int × LL × Int -> Prop) : Prop :=
  Y0 Pf Mf mf Cm m (fun (c18, x19, x20, r21) => ((r21 = 0) -> (YL Cm (fun r34 => ∃ J36 : Int -> Prop, ((((!r34) = true) -> (J36 4)) /\ ((!r34) = false -> J36 r21)) /\ ∀ (z35 : Int), (J36 z35 -> (Jc6 Pf Mf mf c18 x19 z35 (fun q => match q with | (none, r41) => (Q ((0 : Int), (0 : Int), ([] : LI), (0 : Int), ([] : LL), r41)) | (some x42, _) => Q (Pf, Mf, x42, c18, x19, (0 : Int)))))))) /\ (¬ (r21 = 0) -> (Jc6 Pf Mf mf c18 x19 r21 (fun q => match q with | (none, r52) => (Q ((0 : Int), (0 : Int), ([] : LI), (0 : Int), ([] : LL), r52)) | (some x53, _) => Q (Pf, Mf, x53, c18, x19, (0 : Int))))))
theorem Jyl {w : World} {Q : Int × Int × LI × Int × LL × Int -> Prop} {Pf : Int} {Mf : Int} {mf : LI} {Cm : Int} {m : LL} {Bf : Nat} {Af : Option Addr} {nf kf : Nat} (hf : Rd Bf w 1 Af nf kf (is mf)) {Am : Option Addr} {nm km : Nat} (hm : Rl w Am nm km m) (hv : Jid Pf Mf mf Cm m Q) :
   Calls Tryz.prog 27 #[.agg #[.int .i64 Pf, .int .i64 Mf, .slice Af nf kf], .agg #[.int .i64 Cm, .slice Am nm km]] w <| Rt w fun v Qr => ∃ (p0 : Int) (m0 : Int) (f0 : LI) (c0 : Int) (r0 : LL) (r1 : Int) (A0f : Option Addr) (k0f : Nat) (A0 : Option Addr) (k0 : Nat) (hs0 : Hs), v = .tuple #[.agg #[.int .i64 p0, .int .i64 m0, .slice A0f f0.length k0f, .int .i64 c0, .slice A0 r0.length k0], .int .i64 r1] /\ Qr = [.row 3 1 A0f f0.length k0f (is f0), mx 22 3 A0 r0.length k0 hs0 r0] /\ Q (p0, m0, f0, c0, r0, r1) := by
 have hnf := hf.ilen; subst hnf; have hnm := hm.len; subst hnm; obtain ⟨hsm, hHm⟩ := hm.heads; refine Jk <| Qs (vs := [.agg #[nI Pf, nI Mf, nS Af mf kf], .agg #[nI Cm, nS Am m km]]) [.cell 4 27, .tmp 5] XF27 rfl rfl rfl rfl ?_; have hS := Jp w; unfold Jid at hv; refine Jc 2 <| JC (z := 3) (cs := [nI Pf, nI Mf, nS Af mf kf]) hS rfl rfl rfl rfl ?_; intro g11 w12 hS; refine JC (z := 2) (cs := [nI Cm, nS Am m km]) hS rfl rfl rfl rfl ?_; intro g13 w14 hS; refine SL.alloc (cs := [nI 0, nI 0, .slice none 0 0, nI 0, .slice none 0 0]) hS QE rfl rfl ?_; intro g15 w16 hS; refine Jb 2 <| Jc 2 <| JF 2 JY J1 hS rfl ⟨rfl, rfl⟩ rfl <| JF 1 J7 QX hS rfl ⟨rfl, rfl⟩ rfl <| SL.call hS (Jhf (hS.ro hf) (RlH.rl (RlH.ext hHm hS.ext)) hv) XF57 rfl XN57 rfl rfl ?_; rintro _ _ w17 ⟨c18, x19, x20, r21, A22, k23, hs24, A26, k27, rfl, rfl, hv⟩ hGw17 hS; have hS := hS.n2; refine Jb 4 <| SL.alloc (cs := [nI 0, .slice none 0 0]) hS J7 rfl rfl ?_; intro g29 w30 hS; refine JH (cs := [nI c18, nS A22 x19 k23]) 0 hS rfl J7 rfl rfl rfl rfl rfl ?_; intro w31 hS; refine Jb 3 <| Jc 5 <| Jl rfl rfl ?_; by_cases g32 : r21 = 0
 .have hv := hv.1 g32; rw [decide_eq_true g32]; refine WL.take rfl <| Je (off := 0) Q2 rfl rfl <| WL.take rfl <| Jm 4 0 XU3 hS rfl rfl rfl ⟨rfl, rfl⟩ <| WL.take rfl <| SL.call hS (Jde  hv) XF58 rfl XN58 rfl rfl ?_; rintro _ _ w33 ⟨r34, rfl, rfl, hv⟩ hGw33 hS; have hS := hS.n0; refine Jb 4 ?_; obtain ⟨J36, hv, hk49⟩ := hv; refine Qe (σ := Int) (fun z35 w1 => J36 z35 /\ St TT w none w1 [.row 52 2 (nA g29) 1 1 [nI c18, nS A22 x19 k23], mx 22 3 A22 x19.length k23 hs24 x19, nR 3 A26 x20 k27, .row 27 5 (nA g15) 1 1 [nI 0, nI 0, .slice none 0 0, nI 0, .slice none 0 0], .row 52 2 (nA g13) 1 1 [nI Cm, nS Am m km], .row 24 3 (nA g11) 1 1 [nI Pf, nI Mf, nS Af mf kf]]) (fun z35 => [(2, nP g11), (4, nP g15), (5, nI 0), (6, nP g29), (8, nI z35)]) ?_ ?_
  .refine Jf rfl (fun c37 => ?_) (fun c37 => ?_)
   .have hv := hv.1 (c37); refine Jc 3 ?_; exact ⟨(4 : Int), sp rfl, rfl, hv, hS⟩
   have hv := hv.2 (c37); refine Ji ?_; exact ⟨r21, sp rfl, rfl, hv, hS⟩
  rintro z35 w38 ⟨hv, hS⟩; have hv := hk49 z35 hv; refine Jc 2 <| JF 5 JY J1 hS rfl ⟨rfl, rfl⟩ rfl <| JF 0 J7 QX hS rfl ⟨rfl, rfl⟩ rfl <| Jl rfl rfl <| SL.call hS (Jo8 (hS.ro hf) (hS.rl (i := 1) rfl) hv) XF34 rfl XN34 rfl rfl ?_; rintro _ _ w40 ⟨o, r41, hv, hK⟩ hGw40 hS; cases o with
  | none =>
   obtain ⟨rfl, rfl⟩ := hK; have hS := hS.n0; refine Jb 2 <| JH (cs := [nI 0, nI 0, .slice none 0 0, nI 0, .slice none 0 0]) 3 hS rfl QE rfl rfl rfl rfl rfl ?_; intro w46 hS; refine Jb 2 <| W.ret ?_; have hS := hS.nil (e := 3) (z := 1); have hS := hS.mxNil 22 3; have hm4 := hS.mxlen (i := 0) rfl; have hS := hS.relenMx (i := 0) rfl hm4.symm
   change St _ _ _ _ [_, _, _, _, _, _, _, _] at hS
   repeat with_reducible first | refine blk.ret ?_ | refine exits.retI ?_
   refine endC.mk ⟨[.agg #[nI 0, nI 0, .slice none 0 0, nI 0, .slice none 0 0], nI r41], ⟨_, _, _, rfl, rfl, JM (cs := [nI 0, nI 0, .slice none 0 0, nI 0, .slice none 0 0]) QE Zy rfl (JE (hS.own (i := 5) rfl)), ⟨_, _, rfl, rfl, rfl⟩⟩, ?_⟩; exact ⟨_, hS.ext, (hS.pick [1, 0] rfl).rows, Qb (hS.pick [1, 0] rfl).rows rfl, ⟨(0 : Int), (0 : Int), ([] : LI), (0 : Int), ([] : LL), r41, none, 0, none, 0, (fun _ => (none, 0)), (by (try unfold nS); first | (rw [show (Value.slice none 0 0) = Value.slice none (([] : LL)).length 0 from sm0 hm4.symm]; done) | (rw [show (Value.slice none 0 0) = Value.slice none (([] : LL)).length 0 from sm0 hm4.symm]; rfl)), rfl, hv⟩⟩
  | some x42 =>
   obtain ⟨A43, k44, rfl, rfl, rfl⟩ := hK; have hS := hS.n1; refine Jb 2 <| JH (cs := [nI Pf, nI Mf, nS A43 x42 k44, nI c18, nS A22 x19 k23]) 4 hS rfl QE rfl rfl rfl rfl rfl ?_; intro w48 hS; refine Jb 2 <| W.ret ?_; have hS := hS.pick [2, 0, 1, 3, 4, 5, 6] rfl
   change St _ _ _ _ [_, _, _, _, _, _, _] at hS
   repeat with_reducible first | refine blk.ret ?_ | refine exits.retI ?_
   refine endC.mk ⟨[.agg #[nI Pf, nI Mf, nS A43 x42 k44, nI c18, nS A22 x19 k23], nI 0], ⟨_, _, _, rfl, rfl, JM (cs := [nI Pf, nI Mf, nS A43 x42 k44, nI c18, nS A22 x19 k23]) QE Zy rfl (JE (hS.own (i := 4) rfl)), ⟨_, _, rfl, rfl, rfl⟩⟩, ?_⟩; exact (hS.pick [1, 0] rfl).fin rfl ⟨Pf, Mf, x42, c18, x19, (0 : Int), A43, k44, A22, k23, hs24, rfl, rfl, hv⟩
 have hv := hv.2 g32; rw [decide_eq_false g32]; refine Jb 6 <| QA rfl <| Ji <| Jc 2 <| JF 5 JY J1 hS rfl ⟨rfl, rfl⟩ rfl <| JF 0 J7 QX hS rfl ⟨rfl, rfl⟩ rfl <| Jl rfl rfl <| SL.call hS (Jo8 (hS.ro hf) (hS.rl (i := 1) rfl) hv) XF34 rfl XN34 rfl rfl ?_; rintro _ _ w51 ⟨o, r52, hv, hK⟩ hGw51 hS; cases o with
 | none =>
  obtain ⟨rfl, rfl⟩ := hK; have hS := hS.n0; refine Jb 2 <| JH (cs := [nI 0, nI 0, .slice none 0 0, nI 0, .slice none 0 0]) 3 hS rfl QE rfl rfl rfl rfl rfl ?_; intro w57 hS; refine Jb 2 <| W.ret ?_; have hS := hS.nil (e := 3) (z := 1); have hS := hS.mxNil 22 3; have hm4 := hS.mxlen (i := 0) rfl; have hS := hS.relenMx (i := 0) rfl hm4.symm
  change St _ _ _ _ [_, _, _, _, _, _, _, _] at hS
  repeat with_reducible first | refine blk.ret ?_ | refine exits.retI ?_
  refine endC.mk ⟨[.agg #[nI 0, nI 0, .slice none 0 0, nI 0, .slice none 0 0], nI r52], ⟨_, _, _, rfl, rfl, JM (cs := [nI 0, nI 0, .slice none 0 0, nI 0, .slice none 0 0]) QE Zy rfl (JE (hS.own (i := 5) rfl)), ⟨_, _, rfl, rfl, rfl⟩⟩, ?_⟩; exact ⟨_, hS.ext, (hS.pick [1, 0] rfl).rows, Qb (hS.pick [1, 0] rfl).rows rfl, ⟨(0 : Int), (0 : Int), ([] : LI), (0 : Int), ([] : LL), r52, none, 0, none, 0, (fun _ => (none, 0)), (by (try unfold nS); first | (rw [show (Value.slice none 0 0) = Value.slice none (([] : LL)).length 0 from sm0 hm4.symm]; done) | (rw [show (Value.slice none 0 0) = Value.slice none (([] : LL)).length 0 from sm0 hm4.symm]; rfl)), rfl, hv⟩⟩
 | some x53 =>
  obtain ⟨A54, k55, rfl, rfl, rfl⟩ := hK; have hS := hS.n1; refine Jb 2 <| JH (cs := [nI Pf, nI Mf, nS A54 x53 k55, nI c18, nS A22 x19 k23]) 4 hS rfl QE rfl rfl rfl rfl rfl ?_; intro w59 hS; refine Jb 2 <| W.ret ?_; have hS := hS.pick [2, 0, 1, 3, 4, 5, 6] rfl
  change St _ _ _ _ [_, _, _, _, _, _, _] at hS
  repeat with_reducible first | refine blk.ret ?_ | refine exits.retI ?_
  refine endC.mk ⟨[.agg #[nI Pf, nI Mf, nS A54 x53 k55, nI c18, nS A22 x19 k23], nI 0], ⟨_, _, _, rfl, rfl, JM (cs := [nI Pf, nI Mf, nS A54 x53 k55, nI c18, nS A22 x19 k23]) QE Zy rfl (JE (hS.own (i := 4) rfl)), ⟨_, _, rfl, rfl, rfl⟩⟩, ?_⟩; exact (hS.pick [1, 0] rfl).fin rfl ⟨Pf, Mf, x53, c18, x19, (0 : Int), A54, k55, A22, k23, hs24, rfl, rfl, hv⟩
def YY (Pc : Int) (Mc : Int) (mc : LI) (Nc : Int) (c : LL) (l : LI) (n : Int) (Q : Int -> Prop) : Prop :=
  Jcb Pc Mc mc Nc c (fun r14 => ((r14 ≠ 0) -> Q r14) /\ (¬ (r14 ≠ 0) -> ((((l.length : Int) ≠ n) -> (Q 4)) /\ (¬ ((l.length : Int) ≠ n) -> (Zd Pc Mc mc n ([l] : LL) (fun r21 => Q r21))))))
theorem Jhc {w : World} {Q : Int -> Prop} {Pc : Int} {Mc : Int} {mc : LI} {Nc : Int} {c : LL} {l : LI} {n : Int} {Bcf : Nat} {Acf : Option Addr} {ncf kcf : Nat} (hcf : Rd Bcf w 1 Acf ncf kcf (is mc)) {Ac : Option Addr} {nc kc : Nat} (hc : Rl w Ac nc kc c) {Bl : Nat} {Al : Option Addr} {nl kl : Nat} (hl : Rd Bl w 1 Al nl kl (is l)) (hv : YY Pc Mc mc Nc c l n Q) :
   Calls Tryz.prog 43 #[.agg #[.int .i64 Pc, .int .i64 Mc, .slice Acf ncf kcf, .int .i64 Nc, .slice Ac nc kc], .slice Al nl kl, .int .i64 n] w <| Rt w fun v Qr => ∃ (r0 : Int), v = .int .i64 r0 /\ Qr = [] /\ Q r0 := by
 have hncf := hcf.ilen; subst hncf; have hnc := hc.len; subst hnc; obtain ⟨hsc, hHc⟩ := hc.heads; have hnl := hl.ilen; subst hnl; refine Jk <| Jh (vs := [.agg #[nI Pc, nI Mc, nS Acf mc kcf, nI Nc, nS Ac c kc], nS Al l kl, nI n]) [6] XF43 rfl rfl rfl rfl ?_; have hS := Jp w; unfold YY at hv; refine Jc 2 <| JC (z := 5) (cs := [nI Pc, nI Mc, nS Acf mc kcf, nI Nc, nS Ac c kc]) hS rfl rfl rfl rfl ?_; intro g11 w12 hS; refine Jb 2 <| Jc 3 <| JF 0 QE Zy hS rfl ⟨rfl, rfl⟩ rfl <| SL.call hS (Jq7 (hS.ro hcf) (RlH.rl (RlH.ext hHc hS.ext)) hv) XF31 rfl XN31 rfl rfl ?_; rintro _ _ w13 ⟨r14, rfl, rfl, hv⟩ hGw13 hS; have hS := hS.n0; refine Jb 2 <| Jc 5 <| Jf rfl (fun c15 => ?_) (fun c15 => ?_)
 .have hv := hv.1 (oT c15); refine Jc 5 <| W.ret <| ⟨_, rfl, Fin.nil ?_⟩
  exact (hS.pick [] rfl).fin rfl ⟨r14, rfl, rfl, hv⟩
 have hv := hv.2 (oF c15); refine Ji <| Jc 4 <| WL.len Jo rfl rfl <| Jb 3 <| Jf rfl (fun c16 => ?_) (fun c16 => ?_)
 .have hv := hv.1 (oT c16); refine Jc 4 <| W.ret <| ⟨_, rfl, Fin.nil ?_⟩
  exact (hS.pick [] rfl).fin rfl ⟨(4 : Int), rfl, rfl, hv⟩
 have hv := hv.2 (oF c16); refine Ji <| Jc 2 <| Je (off := 0) ZW rfl rfl <| QB (cs := [nI Pc, nI Mc, nS Acf mc kcf]) JY J1 rfl rfl (ZI (hS.rd (i := 0) rfl) 0 rfl) rfl <| Jb 2 <| QG (vs := [nS Al l kl]) hS Jy Jw rfl rfl rfl rfl (by simp [Value.oneCell']) rfl ?_; intro A17 w18 hS; refine Qd (cells := #[nI n, .slice A17 1 1]) Jh2 rfl rfl rfl <| SL.call hS (Jcl (hS.ro hcf) (⟨_, _, (hS.rd (i := 0) rfl), ⟨⟨_, _, _, rfl, (Jcd (hS.ro hl))⟩, trivial⟩⟩ : Rl _ _ _ _ ([l] : LL)) hv) XF77 rfl XN77 rfl rfl ?_; rintro _ _ w20 ⟨r21, rfl, rfl, hv⟩ hGw20 hS; have hS := hS.n0; refine Jb 2 <| W.ret <| ⟨_, rfl, Fin.nil ?_⟩
 exact (hS.pick [] rfl).fin rfl ⟨r21, rfl, rfl, hv⟩
def Jff (Pc : Int) (Mc : Int) (mc : LI) (Nc : Int) (c : LL) (y : LI) (Q : Bool × Int -> Prop) : Prop :=
  YY Pc Mc mc Nc c y Nc (fun r14 => ((r14 ≠ 0) -> (Q (false, r14))) /\ (¬ (r14 ≠ 0) -> (∃ (r23 : Bool) (r24 : Int), Jqf Pc Mc mc Nc c y (fun q => q = (r23, r24)) /\ (Q (r23, r24)))))
theorem Jym {w : World} {Q : Bool × Int -> Prop} {Pc : Int} {Mc : Int} {mc : LI} {Nc : Int} {c : LL} {y : LI} {Bcf : Nat} {Acf : Option Addr} {ncf kcf : Nat} (hcf : Rd Bcf w 1 Acf ncf kcf (is mc)) {Ac : Option Addr} {nc kc : Nat} (hc : Rl w Ac nc kc c) {By : Nat} {Ay : Option Addr} {ny ky : Nat} (hy : Rd By w 1 Ay ny ky (is y)) (hv : Jff Pc Mc mc Nc c y Q) :
   Calls Tryz.prog 21 #[.agg #[.int .i64 Pc, .int .i64 Mc, .slice Acf ncf kcf, .int .i64 Nc, .slice Ac nc kc], .slice Ay ny ky] w <| Rt w fun v Qr => ∃ (r0 : Bool) (r1 : Int), v = .tuple #[.bool r0, .int .i64 r1] /\ Qr = [] /\ Q (r0, r1) := by
 have hncf := hcf.ilen; subst hncf; have hnc := hc.len; subst hnc; obtain ⟨hsc, hHc⟩ := hc.heads; have hny := hy.ilen; subst hny; refine Jk <| Jh (vs := [.agg #[nI Pc, nI Mc, nS Acf mc kcf, nI Nc, nS Ac c kc], nS Ay y ky]) [4, 5] XF21 rfl rfl rfl rfl ?_; have hS := Jp w; unfold Jff at hv; refine Jc 2 <| JC (z := 5) (cs := [nI Pc, nI Mc, nS Acf mc kcf, nI Nc, nS Ac c kc]) hS rfl rfl rfl rfl ?_; intro g11 w12 hS; refine Jb 3 <| Jc 3 <| JF 0 QE Zy hS rfl ⟨rfl, rfl⟩ rfl <| Jl rfl rfl <| Je (off := 3) Jbd rfl rfl <| Jm 0 3 XU3 hS rfl rfl rfl ⟨rfl, rfl⟩ <| SL.call hS (Jhc (hS.ro hcf) (RlH.rl (RlH.ext hHc hS.ext)) (hS.ro hy) hv) XF43 rfl XN43 rfl rfl ?_; rintro _ _ w13 ⟨r14, rfl, rfl, hv⟩ hGw13 hS; have hS := hS.n0; refine Jb 2 <| Jc 5 <| Jf rfl (fun c15 => ?_) (fun c15 => ?_)
 .have hv := hv.1 (oT c15); refine Jc 6 <| W.ret <| ⟨_, rfl, Fin.nil ?_⟩
  exact (hS.pick [] rfl).fin rfl ⟨false, r14, rfl, rfl, hv⟩
 have hv := hv.2 (oF c15); refine Ji <| Js ?_; obtain ⟨r23, r24, o26, hv⟩ := hv; refine JN 10 [⟨[], [2], true⟩, ⟨[0], [], false⟩, ⟨[], [2], false⟩, ⟨[2], [], false⟩, ⟨[], [1], true⟩, ⟨[1, 3, 4], [], false⟩, ⟨[5], [], true⟩, ⟨[5], [], true⟩, ⟨[6], [], true⟩, ⟨[7], [], true⟩] [(15, nP g11), (16, .agg #[nI Pc, nI Mc, nS Acf mc kcf]), (17, .agg #[nI Pc, nI Mc, nS Acf mc kcf, nI Nc, nS Ac c kc]), (18, .agg #[nI Nc, nS Ac c kc]), (19, nS Ay y ky), (20, .tuple #[.bool r23, nI r24]), (21, .bool r23), (22, nI r24), (4, .bool r23), (5, nI r24)] Jr (by kernel_rfl) rfl rfl ?_ ?_
 . refine ⟨fun _ _ _ => Je (off := 0) ZW rfl rfl <| Ja ⟨rfl, rfl⟩, og hS fun _ _ hS => QB (cs := [nI Pc, nI Mc, nS Acf mc kcf]) JY J1 rfl rfl (ZI (hS.rd (i := 0) rfl) 0 rfl) rfl <| Ja ⟨rfl, Jd _⟩, og hS fun _ _ hS => JF 0 QE Zy hS rfl ⟨rfl, rfl⟩ rfl <| Ja ⟨rfl, Jd _⟩, ?_, oD, ?_, oD, oD, oD, oD, trivial⟩
   .intro w19 hE RR; have hS := hS.grow (hE rfl); refine WL.call XF33 rfl XN33 rfl rfl (JJ (Jbq (Q := fun _ => True) (hS.ro hcf) (RlH.rl (RlH.ext hHc hS.ext)) trivial)) ?_; rintro _ w20 ⟨_, hGw20, hRww20, hNww20, rfl, rfl, _⟩; exact Ja ⟨rfl, hGw20⟩
   intro w22 hE RR; have hS := hS.grow (hE rfl); refine WL.call XF44 rfl XN44 rfl rfl (JJ (ok_Has (hS.ro hcf) (RlH.rl (RlH.ext hHc hS.ext)) (hS.ro hy) o26)) ?_; rintro _ w25 ⟨_, hGw25, hRww25, hNww25, r23q, r24q, rfl, rfl, he⟩; cases he; exact Ja ⟨rfl, hGw25⟩
 intro w31 hT; have hS := hS.grow hT; refine JL <| W.ret <| ⟨_, rfl, Fin.nil ?_⟩
 exact (hS.pick [] rfl).fin rfl ⟨r23, r24, rfl, rfl, hv⟩
end Go.Proofs.YtjgpkljepgcekaaGreat
namespace Go.Proofs.YtjgpkljepgcekaaGreat
open Go.RowKit
def Z3  (Q : Int × Int × LI -> Prop) : Prop :=
  Q ((2 : Int), (1 : Int), ([] : LI))
theorem Jf4 {w : World} {Q : Int × Int × LI -> Prop}   (hv : Z3  Q) :
  Calls Tryz.prog 42 #[] w <| Rt w fun v Qr => ∃ (p0 : Int) (m0 : Int) (r0 : LI) (A0 : Option Addr) (k0 : Nat), v = .agg #[.int .i64 p0, .int .i64 m0, .slice A0 r0.length k0] /\ Qr = [.row 3 1 A0 r0.length k0 (is r0)] /\ Q (p0, m0, r0) := by
 refine Jk <| Qs (vs := []) [.cell 0 24] XF42 rfl rfl rfl rfl ?_; have hS := Jp w; unfold Z3 at hv; refine Jc 2 <| SL.alloc (cs := [nI 0, nI 0, .slice none 0 0]) hS JY rfl rfl ?_; intro g11 w12 hS; refine Ja <| Jc 2 <| Qd (cells := #[nI 2, nI 1, .slice none 0 0]) XB24 rfl rfl rfl <| JH (cs := [nI 2, nI 1, .slice none 0 0]) 0 hS rfl JY rfl rfl rfl rfl rfl ?_; intro w13 hS; refine Ja <| W.ret ?_; have hS := hS.nil (e := 3) (z := 1)
 change St _ _ _ _ [_, _] at hS
 repeat with_reducible first | refine blk.ret ?_ | refine exits.retI ?_
 refine endC.mk ⟨[.agg #[nI 2, nI 1, .slice none 0 0]], ⟨_, _, _, rfl, rfl, JM (cs := [nI 2, nI 1, .slice none 0 0]) JY J1 rfl (JE (hS.own (i := 1) rfl)), rfl⟩, ?_⟩; exact (hS.pick [0] rfl).fin rfl ⟨(2 : Int), (1 : Int), ([] : LI), none, 0, rfl, rfl, hv⟩
def YW (m : Int) (l : LI) (Q : LI -> Prop) : Prop :=
  ∃ (I17 : Int -> Int -> Prop) (μ18 : Int -> Int -> Nat), I17 0 (0 : Int) /\ ∀ (z15 : Int) (z16 : Int), (I17 z15 z16 -> (((z16 < (l.length : Int)) -> ((0 <= z16 /\ z16 < (l.length : Nat)) /\ ((0 <= (gi l z16) /\ I64 (QT (1 : Int) (gi l z16))) /\ ((0 <= z15 /\ z15 < 9223372036854775808 /\ 0 <= (QT (1 : Int) (gi l z16)) /\ (QT (1 : Int) (gi l z16)) < 9223372036854775808) /\ ((I64 (z16 + 1)) /\ (I17 (ior z15 (QT (1 : Int) (gi l z16))) (z16 + 1) /\ μ18 (ior z15 (QT (1 : Int) (gi l z16))) (z16 + 1) < μ18 z15 z16)))))) /\ (¬ (z16 < (l.length : Int)) -> ((0 <= m /\ I64 (QT (1 : Int) m)) /\ ((0 <= (QT (1 : Int) m) /\ (QT (1 : Int) m) * 8 <= 281474976710656 /\ (QT (1 : Int) m) <= 281474976710656) /\ (∃ (I36 : LI -> Int -> Prop) (μ37 : LI -> Int -> Nat), I36 (List.replicate (QT (1 : Int) m).toNat (0 : Int)) (0 : Int) /\ ∀ (x34 : LI) (z35 : Int), (I36 x34 z35 -> (((z35 < (((QT (1 : Int) m).toNat : Nat) : Int)) -> (∃ J41 : LI -> Prop, ((0 <= z35 /\ z35 < 9223372036854775808 /\ 0 <= z15 /\ z15 < 9223372036854775808) /\ ((((Jl8 z35 z15) = z15) -> ((0 <= z35 /\ z35 < ((QT (1 : Int) m).toNat : Nat)) /\ (J41 (si x34 z35 1)))) /\ (¬ ((Jl8 z35 z15) = z15) -> J41 x34))) /\ ∀ (x40 : LI), (J41 x40 -> ((I64 (z35 + 1)) /\ (I36 x40 (z35 + 1) /\ μ37 x40 (z35 + 1) < μ37 x34 z35))))) /\ (¬ (z35 < (((QT (1 : Int) m).toNat : Nat) : Int)) -> Q x34)))))))))
theorem Jg9 {w : World} {Q : LI -> Prop} {m : Int} {l : LI} {Bl : Nat} {Al : Option Addr} {nl kl : Nat} (hl : Rd Bl w 1 Al nl kl (is l)) (hv : YW m l Q) :
   Calls Tryz.prog 41 #[.int .i64 m, .slice Al nl kl] w <| Rt w fun v Qr => ∃ (x : LI)  (A : Option Addr) (c : Nat), v = .slice A x.length c /\ Qr = [.row 3 1 A x.length c (is x)] /\ Q x := by
 have hnl := hl.ilen; subst hnl; refine Jk <| Jh (vs := [nI m, nS Al l kl]) [4] XF41 rfl rfl rfl rfl ?_; have hS := Jp w; unfold YW at hv; refine Jc 12 <| WL.len Jo rfl rfl <| Jb 2 <| W.block ?_; obtain ⟨I17, μ18, hv, hk50⟩ := hv; refine Jz (σ := Int × Int) (fun q w1 => match q with | (z15, z16) => I17 z15 z16 /\ St TT w none w1 []) (fun (z15, z16) => [(0, nI m), (4, .slice none 0 0), (5, nI z15), (10, nS Al l kl), (11, nI (l.length : Int)), (12, nI z16)]) (fun (z15, z16) => μ18 z15 z16) ((0 : Int), (0 : Int)) ⟨hv, hS⟩ ⟨rfl, rfl, rfl, rfl, rfl, rfl, trivial⟩ ?_; rintro ⟨z15, z16⟩ w19 ⟨hv, hS⟩; have hv := hk50 z15 z16 hv; refine Jc 5 <| Jf rfl (fun c20 => ?_) (fun c20 => ?_)
 .have hv := hv.1 (oT c20); refine Ji <| Js <| W.block <| Jc 2 ?_; obtain ⟨o21, hv⟩ := hv; refine Jg Jo XE3 (hS.ro hl) rfl rfl o21 rfl <| Jj XU3 rfl rfl (JG (hS.ro hl) o21) rfl <| Jb 2 <| Jc 3 ?_; obtain ⟨o22, hv⟩ := hv; refine Jxc (r := (QT (1 : Int) (gi l z16))) rfl rfl o22.1 (wr o22.2) rfl ?_; obtain ⟨o23, hv⟩ := hv; refine WL.bits (r := (ior z15 (QT (1 : Int) (gi l z16)))) rfl rfl (by decide) (Jx7 o23) rfl <| Jb 2 <| Jt ?_; obtain ⟨o24, hv⟩ := hv; refine WL.add (r := (z16 + 1)) rfl rfl (wr o24) rfl <| Jb 2 ?_; exact ⟨((ior z15 (QT (1 : Int) (gi l z16))), (z16 + 1)), sp rfl, hv.2, rfl, hv.1, hS⟩
 have hv := hv.2 (oF c20); refine Ju <| Jc 3 ?_; obtain ⟨o25, hv⟩ := hv; refine Jxc (r := (QT (1 : Int) m)) rfl rfl o25.1 (wr o25.2) rfl ?_; obtain ⟨o26, hv⟩ := hv; refine Qj (J := (QT (1 : Int) m)) hS Jo XE3 rfl rfl o26 (Qz _) rfl ?_; intro A27 w28 hS; refine Jb 2 <| Jc 4 <| WL.len Jo rfl rfl <| Jb 2 <| W.block ?_; obtain ⟨I36, μ37, hv, hk49⟩ := hv; refine Jz (σ := LI × Int) (fun q w1 => match q with | (x34, z35) => I36 x34 z35 /\ St TT w none w1 [.row 3 1 A27 ((QT (1 : Int) m).toNat) ((QT (1 : Int) m).toNat) (is x34)]) (fun (x34, z35) => [(4, .slice none 0 0), (5, nI z15), (8, .slice A27 ((QT (1 : Int) m).toNat) ((QT (1 : Int) m).toNat)), (25, nI (((QT (1 : Int) m).toNat : Nat) : Int)), (26, nI z35)]) (fun (x34, z35) => μ37 x34 z35) (List.replicate (QT (1 : Int) m).toNat (0 : Int), (0 : Int)) ⟨hv, hS⟩ ⟨rfl, rfl, rfl, rfl, rfl, trivial⟩ ?_; rintro ⟨x34, z35⟩ w38 ⟨hv, hS⟩; have hv := hk49 x34 z35 hv; refine Jc 5 <| Jf rfl (fun c39 => ?_) (fun c39 => ?_)
 .have hv := hv.1 (oT c39); refine Ji <| Js ?_; obtain ⟨J41, hv, hk48⟩ := hv; refine Qe (σ := LI) (fun x40 w1 => J41 x40 /\ St TT w none w1 [.row 3 1 A27 ((QT (1 : Int) m).toNat) ((QT (1 : Int) m).toNat) (is x40)]) (fun x40 => [(4, .slice none 0 0), (5, nI z15), (8, .slice A27 ((QT (1 : Int) m).toNat) ((QT (1 : Int) m).toNat)), (9, nI z35), (25, nI (((QT (1 : Int) m).toNat : Nat) : Int)), (26, nI z35), (27, .bool (decide (z35 < (((QT (1 : Int) m).toNat : Nat) : Int)))), (33, .bool (decide ((Jl8 z35 z15) = z15)))]) ?_ ?_
  .refine W.block ?_; refine Jc 9 ?_; obtain ⟨o42, hv⟩ := hv; refine WL.bits (r := (Jl8 z35 z15)) rfl rfl (by decide) (Ju9 o42) rfl <| Jb 3 <| Jf rfl (fun c43 => ?_) (fun c43 => ?_)
   .have hv := hv.1 (oT c43); refine Jc 3 ?_; obtain ⟨o44, hv⟩ := hv; refine Jg Jo XE3 (hS.rd (i := 0) rfl) rfl rfl o44 rfl <| JB (cs' := is (si x34 z35 1)) 0 z35.toNat hS rfl XE3 rfl rfl rfl (Qu (hS.rd (i := 0) rfl) o44) (J9 _ _ _) ?_; intro w45 hS; refine Ja ?_; exact ⟨si x34 z35 1, sp rfl, rfl, hv, hS⟩
   have hv := hv.2 (oF c43); refine Ji ?_; exact ⟨x34, sp rfl, rfl, hv, hS⟩
  rintro x40 w46 ⟨hv, hS⟩; have hv := hk48 x40 hv; refine Jt ?_; obtain ⟨o47, hv⟩ := hv; refine WL.add (r := (z35 + 1)) rfl rfl (wr o47) rfl <| Jb 2 ?_; exact ⟨(x40, (z35 + 1)), sp rfl, hv.2, rfl, hv.1, hS⟩
 have hv := hv.2 (oF c39); refine Ju <| Jc 5 <| W.ret ?_; have hm := (hS.rd (i := 0) rfl).ilen; have hS := hS.relen (i := 0) rfl hm.symm; refine ⟨_, rfl, Fin.nil ?_⟩; exact ⟨_, hS.ext, (hS.pick [0] rfl).rows, Qb (hS.pick [0] rfl).rows rfl, ⟨x34, A27, (QT (1 : Int) m).toNat, (by rw [hm]), rfl, hv⟩⟩
def ZF (m : Int) (l : LI) (Q : LI × Int -> Prop) : Prop :=
  ((m < 0) -> (Q (([] : LI), (6 : Int)))) /\ (¬ (m < 0) -> ((((6 : Int) < m) -> (Q (([] : LI), (6 : Int)))) /\ (¬ ((6 : Int) < m) -> (∃ (I19 : Int -> Int -> Prop) (μ20 : Int -> Int -> Nat), I19 (-1 : Int) (0 : Int) /\ ∀ (z17 : Int) (z18 : Int), (I19 z17 z18 -> (((z18 < (l.length : Int)) -> ((0 <= z18 /\ z18 < (l.length : Nat)) /\ ((((gi l z18) <= z17) -> (Q (([] : LI), (5 : Int)))) /\ (¬ ((gi l z18) <= z17) -> (((m <= (gi l z18)) -> (Q (([] : LI), (5 : Int)))) /\ (¬ (m <= (gi l z18)) -> ((I64 (z18 + 1)) /\ (I19 (gi l z18) (z18 + 1) /\ μ20 (gi l z18) (z18 + 1) < μ20 z17 z18)))))))) /\ (¬ (z18 < (l.length : Int)) -> (YW m l (fun x28 => Q (x28, (0 : Int)))))))))))
theorem Jjj {w : World} {Q : LI × Int -> Prop} {m : Int} {l : LI} {Bl : Nat} {Al : Option Addr} {nl kl : Nat} (hl : Rd Bl w 1 Al nl kl (is l)) (hv : ZF m l Q) :
   Calls Tryz.prog 20 #[.int .i64 m, .slice Al nl kl] w <| Rt w fun v Qr => ∃ (r0 : LI) (r1 : Int) (A0 : Option Addr) (k0 : Nat), v = .tuple #[.slice A0 r0.length k0, .int .i64 r1] /\ Qr = [.row 3 1 A0 r0.length k0 (is r0)] /\ Q (r0, r1) := by
 have hnl := hl.ilen; subst hnl; refine Jk <| Jh (vs := [nI m, nS Al l kl]) [4, 5] XF20 rfl rfl rfl rfl ?_; have hS := Jp w; unfold ZF at hv; refine Jc 10 <| Jl rfl rfl ?_; by_cases g11 : m < 0
 .have hv := hv.1 g11; rw [decide_eq_true g11]; refine Jb 4 <| JX rfl <| Jc 5 <| W.ret ?_; have hS := hS.nil (e := 3) (z := 1)
  change St _ _ _ _ [_] at hS
  refine ⟨_, rfl, Fin.nil ?_⟩; exact (hS.pick [0] rfl).fin rfl ⟨([] : LI), (6 : Int), none, 0, rfl, rfl, hv⟩
 have hv := hv.2 g11; rw [decide_eq_false g11]; refine Jb 6 <| Jf rfl (fun c12 => ?_) (fun c12 => ?_)
 .have hv := hv.1 (oT c12); refine Jc 5 <| W.ret ?_; have hS := hS.nil (e := 3) (z := 1)
  change St _ _ _ _ [_] at hS
  refine ⟨_, rfl, Fin.nil ?_⟩; exact (hS.pick [0] rfl).fin rfl ⟨([] : LI), (6 : Int), none, 0, rfl, rfl, hv⟩
 have hv := hv.2 (oF c12); refine Ji <| Jc 8 <| WL.len Jo rfl rfl <| Jb 2 <| W.block ?_; obtain ⟨I19, μ20, hv, hk32⟩ := hv; refine Jz (σ := Int × Int) (fun q w1 => match q with | (z17, z18) => I19 z17 z18 /\ St TT w none w1 []) (fun (z17, z18) => [(0, nI m), (1, nS Al l kl), (4, .slice none 0 0), (5, nI 0), (6, nI z17), (15, nS Al l kl), (16, nI (l.length : Int)), (17, nI z18)]) (fun (z17, z18) => μ20 z17 z18) ((-1 : Int), (0 : Int)) ⟨hv, hS⟩ ⟨rfl, rfl, rfl, rfl, rfl, rfl, rfl, rfl, trivial⟩ ?_; rintro ⟨z17, z18⟩ w21 ⟨hv, hS⟩; have hv := hk32 z17 z18 hv; refine Jc 5 <| Jf rfl (fun c22 => ?_) (fun c22 => ?_)
 .have hv := hv.1 (oT c22); refine Ji <| Js <| W.block <| Jc 2 ?_; obtain ⟨o23, hv⟩ := hv; refine Jg Jo XE3 (hS.ro hl) rfl rfl o23 rfl <| Jj XU3 rfl rfl (JG (hS.ro hl) o23) rfl <| Jb 2 <| Jc 6 <| Jl rfl rfl ?_; by_cases g24 : (gi l z18) <= z17
  .have hv := hv.1 g24; rw [decide_eq_true g24]; refine Jb 5 <| JX rfl <| Jc 5 <| W.ret ?_; have hS := hS.nil (e := 3) (z := 1)
   change St _ _ _ _ [_] at hS
   refine ⟨_, rfl, Fin.nil ?_⟩; exact (hS.pick [0] rfl).fin rfl ⟨([] : LI), (5 : Int), none, 0, rfl, rfl, hv⟩
  have hv := hv.2 g24; rw [decide_eq_false g24]; refine Jb 8 <| Jf rfl (fun c25 => ?_) (fun c25 => ?_)
  .have hv := hv.1 (oT c25); refine Jc 5 <| W.ret ?_; have hS := hS.nil (e := 3) (z := 1)
   change St _ _ _ _ [_] at hS
   refine ⟨_, rfl, Fin.nil ?_⟩; exact (hS.pick [0] rfl).fin rfl ⟨([] : LI), (5 : Int), none, 0, rfl, rfl, hv⟩
  have hv := hv.2 (oF c25); refine Ji <| Jc 4 <| Jt ?_; obtain ⟨o26, hv⟩ := hv; refine WL.add (r := (z18 + 1)) rfl rfl (wr o26) rfl <| Jb 2 ?_; exact ⟨((gi l z18), (z18 + 1)), sp rfl, hv.2, rfl, hv.1, hS⟩
 have hv := hv.2 (oF c22); refine Ju <| Jc 4 <| SL.call hS (Jg9 (hS.ro hl) hv) XF41 rfl XN41 rfl rfl ?_; rintro _ _ w27 ⟨x28, A29, k30, rfl, rfl, hv⟩ hGw27 hS; have hS := hS.n1; refine Jb 3 <| W.ret <| ⟨_, rfl, Fin.nil ?_⟩
 exact (hS.pick [0] rfl).fin rfl ⟨x28, (0 : Int), A29, k30, rfl, rfl, hv⟩
end Go.Proofs.YtjgpkljepgcekaaGreat
namespace Go.Proofs.YtjgpkljepgcekaaGreat
open Go.RowKit
def Jap  (Q : Bool -> Prop) : Prop :=
  ZF (2 : Int) ([(0 : Int), (1 : Int)] : LI) (fun (x15, r16) => ((r16 = 0) -> ((((x15.length : Int) = (4 : Int)) -> ((0 <= (0 : Int) /\ (0 : Int) < (x15.length : Nat)) /\ ((((gi x15 0) = 0) -> ((0 <= (1 : Int) /\ (1 : Int) < (x15.length : Nat)) /\ ((((gi x15 1) = 0) -> ((0 <= (2 : Int) /\ (2 : Int) < (x15.length : Nat)) /\ ((((gi x15 2) = 0) -> ((0 <= (3 : Int) /\ (3 : Int) < (x15.length : Nat)) /\ (Q (decide ((gi x15 3) = 1))))) /\ (¬ ((gi x15 2) = 0) -> Q false)))) /\ (¬ ((gi x15 1) = 0) -> Q false)))) /\ (¬ ((gi x15 0) = 0) -> Q false)))) /\ (¬ ((x15.length : Int) = (4 : Int)) -> Q false))) /\ (¬ (r16 = 0) -> Q false))
theorem Jlx {w : World} {Q : Bool -> Prop}   (hv : Jap  Q) :
   Calls Tryz.prog 14 #[] w <| Rt w fun v Qr => ∃ (r0 : Bool), v = .bool r0 /\ Qr = [] /\ Q r0 := by
 refine Jk <| Jh (vs := []) [0] XF14 rfl rfl rfl rfl ?_; have hS := Jp w; unfold Jap at hv; refine Jc 6 <| QG (vs := is ([(0 : Int), (1 : Int)] : LI)) hS Jo XE3 rfl rfl rfl rfl (Qo _) rfl ?_; intro A11 w12 hS; refine SL.call hS (Jjj (hS.rd (i := 0) rfl) hv) XF20 rfl XN20 rfl rfl ?_; rintro _ _ w14 ⟨x15, r16, A17, k18, rfl, rfl, hv⟩ hGw14 hS; have hS := hS.n1; refine Jb 6 <| Jc 4 <| Jl rfl rfl ?_; by_cases g20 : r16 = 0
 .have hv := hv.1 g20; rw [decide_eq_true g20]; refine Jb 3 <| WL.len Jo rfl rfl <| Jb 3 <| Jl rfl rfl ?_; by_cases g21 : (x15.length : Int) = (4 : Int)
  .have hv := hv.1 g21; rw [decide_eq_true g21]; refine Jb 3 ?_; obtain ⟨o22, hv⟩ := hv; refine Jg Jo XE3 (hS.rd (i := 0) rfl) rfl rfl o22 rfl <| WL.take rfl <| Jj XU3 rfl rfl (JG (hS.rd (i := 0) rfl) o22) rfl <| Jb 3 <| Jl rfl rfl ?_; by_cases g23 : (gi x15 0) = 0
   .have hv := hv.1 g23; rw [decide_eq_true g23]; refine Jb 3 ?_; obtain ⟨o24, hv⟩ := hv; refine Jg Jo XE3 (hS.rd (i := 0) rfl) rfl rfl o24 rfl <| WL.take rfl <| Jj XU3 rfl rfl (JG (hS.rd (i := 0) rfl) o24) rfl <| Jb 3 <| Jl rfl rfl ?_; by_cases g25 : (gi x15 1) = 0
    .have hv := hv.1 g25; rw [decide_eq_true g25]; refine Jb 3 ?_; obtain ⟨o26, hv⟩ := hv; refine Jg Jo XE3 (hS.rd (i := 0) rfl) rfl rfl o26 rfl <| WL.take rfl <| Jj XU3 rfl rfl (JG (hS.rd (i := 0) rfl) o26) rfl <| Jb 3 <| Jl rfl rfl ?_; by_cases g27 : (gi x15 2) = 0
     .have hv := hv.1 g27; rw [decide_eq_true g27]; refine Jb 3 ?_; obtain ⟨o28, hv⟩ := hv; refine Jg Jo XE3 (hS.rd (i := 0) rfl) rfl rfl o28 rfl <| WL.take rfl <| Jj XU3 rfl rfl (JG (hS.rd (i := 0) rfl) o28) rfl <| Jb 5 <| W.ret <| ⟨_, rfl, Fin.nil ?_⟩
      exact (hS.pick [] rfl).fin rfl ⟨(decide ((gi x15 3) = 1)), rfl, rfl, hv⟩
     have hv := hv.2 g27; rw [decide_eq_false g27]; refine Jb 7 <| W.ret <| ⟨_, rfl, Fin.nil ?_⟩
     exact (hS.pick [] rfl).fin rfl ⟨false, rfl, rfl, hv⟩
    have hv := hv.2 g25; rw [decide_eq_false g25]; refine Jb 13 <| W.ret <| ⟨_, rfl, Fin.nil ?_⟩
    exact (hS.pick [] rfl).fin rfl ⟨false, rfl, rfl, hv⟩
   have hv := hv.2 g23; rw [decide_eq_false g23]; refine Jb 19 <| W.ret <| ⟨_, rfl, Fin.nil ?_⟩
   exact (hS.pick [] rfl).fin rfl ⟨false, rfl, rfl, hv⟩
  have hv := hv.2 g21; rw [decide_eq_false g21]; refine Jb 25 <| W.ret <| ⟨_, rfl, Fin.nil ?_⟩
  exact (hS.pick [] rfl).fin rfl ⟨false, rfl, rfl, hv⟩
 have hv := hv.2 g20; rw [decide_eq_false g20]; refine Jb 30 <| W.ret <| ⟨_, rfl, Fin.nil ?_⟩
 exact (hS.pick [] rfl).fin rfl ⟨false, rfl, rfl, hv⟩
end Go.Proofs.YtjgpkljepgcekaaGreat
namespace Go.Proofs.YtjgpkljepgcekaaGreat
open Go.RowKit
def YV (n : Int) (Q : Bool -> Prop) : Prop :=
  ((n < 3) -> Q false) /\ (¬ (n < 3) -> ((((64 : Int) < n) -> Q false) /\ (¬ ((64 : Int) < n) -> ((((n.tmod (8 : Int)) ≠ 1) -> ((((n.tmod (8 : Int)) ≠ 7) -> Q false) /\ (¬ ((n.tmod (8 : Int)) ≠ 7) -> (∃ (I18 : Int -> Prop) (μ19 : Int -> Nat), I18 2 /\ ∀ (z17 : Int), (I18 z17 -> (((z17 < n) -> ((z17 ≠ 0) /\ ((((n.tmod z17) = (0 : Int)) -> Q false) /\ (¬ ((n.tmod z17) = (0 : Int)) -> ((I64 (z17 + 1)) /\ (I18 (z17 + 1) /\ μ19 (z17 + 1) < μ19 z17)))))) /\ (¬ (z17 < n) -> Q true))))))) /\ (¬ ((n.tmod (8 : Int)) ≠ 1) -> (∃ (I29 : Int -> Prop) (μ30 : Int -> Nat), I29 2 /\ ∀ (z28 : Int), (I29 z28 -> (((z28 < n) -> ((z28 ≠ 0) /\ ((((n.tmod z28) = (0 : Int)) -> Q false) /\ (¬ ((n.tmod z28) = (0 : Int)) -> ((I64 (z28 + 1)) /\ (I29 (z28 + 1) /\ μ30 (z28 + 1) < μ30 z28)))))) /\ (¬ (z28 < n) -> Q true)))))))))
theorem Jg8 {w : World} {Q : Bool -> Prop} {n : Int}  (hv : YV n Q) :
   Calls Tryz.prog 25 #[.int .i64 n] w <| Rt w fun v Qr => ∃ (r0 : Bool), v = .bool r0 /\ Qr = [] /\ Q r0 := by
 refine Jk <| Jh (vs := [nI n]) [2] XF25 rfl rfl rfl rfl ?_; have hS := Jp w; unfold YV at hv; refine Jc 9 <| Jl rfl rfl ?_; by_cases g11 : n < 3
 .have hv := hv.1 g11; rw [decide_eq_true g11]; refine Jb 8 <| Qy rfl rfl <| Qy rfl rfl <| Qy rfl rfl <| Jb 3 <| JX rfl <| Jc 4 <| W.ret <| ⟨_, rfl, Fin.nil ?_⟩
  exact (hS.pick [] rfl).fin rfl ⟨false, rfl, rfl, hv⟩
 have hv := hv.2 g11; rw [decide_eq_false g11]; refine Jb 5 <| Jl rfl rfl ?_; by_cases g12 : (64 : Int) < n
 .have hv := hv.1 g12; rw [decide_eq_true g12]; refine Jb 4 <| Qy rfl rfl <| Qy rfl rfl <| Qy rfl rfl <| Jb 3 <| JX rfl <| Jc 4 <| W.ret <| ⟨_, rfl, Fin.nil ?_⟩
  exact (hS.pick [] rfl).fin rfl ⟨false, rfl, rfl, hv⟩
 have hv := hv.2 g12; rw [decide_eq_false g12]; refine Jb 3 <| Qa (r := (n.tmod (8 : Int))) rfl rfl (by decide) rfl rfl <| Jb 3 <| Jl rfl rfl ?_; by_cases g13 : (n.tmod (8 : Int)) ≠ 1
 .have hv := hv.1 g13; rw [decide_eq_true g13]; refine Jb 3 <| Qa (r := (n.tmod (8 : Int))) rfl rfl (by decide) rfl rfl <| Jb 6 <| Jf rfl (fun c14 => ?_) (fun c14 => ?_)
  .have hv := hv.1 (oT c14); refine Jc 4 <| W.ret <| ⟨_, rfl, Fin.nil ?_⟩
   exact (hS.pick [] rfl).fin rfl ⟨false, rfl, rfl, hv⟩
  have hv := hv.2 (oF c14); refine Ji <| Jc 5 <| W.block ?_; obtain ⟨I18, μ19, hv, hk25⟩ := hv; refine Jz (σ := Int) (fun z17 w1 => I18 z17 /\ St TT w none w1 []) (fun z17 => [(0, nI n), (2, .bool false), (3, nI z17)]) (fun z17 => μ19 z17) (2 : Int) ⟨hv, hS⟩ ⟨rfl, rfl, rfl, trivial⟩ ?_; rintro z17 w20 ⟨hv, hS⟩; have hv := hk25 z17 hv; refine Jc 7 <| Jf rfl (fun c21 => ?_) (fun c21 => ?_)
  .have hv := hv.1 (oT c21); refine Ji <| Js <| W.block <| Jc 4 ?_; obtain ⟨o22, hv⟩ := hv; refine Qa (r := (n.tmod z17)) rfl rfl o22 rfl rfl <| Jb 2 <| Jf rfl (fun c23 => ?_) (fun c23 => ?_)
   .have hv := hv.1 (oT c23); refine Jc 4 <| W.ret <| ⟨_, rfl, Fin.nil ?_⟩
    exact (hS.pick [] rfl).fin rfl ⟨false, rfl, rfl, hv⟩
   have hv := hv.2 (oF c23); refine Ji <| Jc 2 ?_; obtain ⟨o24, hv⟩ := hv; refine WL.add (r := (z17 + 1)) rfl rfl (wr o24) rfl <| Jb 2 ?_; exact ⟨(z17 + 1), sp rfl, hv.2, rfl, hv.1, hS⟩
  have hv := hv.2 (oF c21); refine Ju <| Jc 4 <| W.ret <| ⟨_, rfl, Fin.nil ?_⟩
  exact (hS.pick [] rfl).fin rfl ⟨true, rfl, rfl, hv⟩
 have hv := hv.2 g13; rw [decide_eq_false g13]; refine Jb 7 <| QA rfl <| Ji <| Jc 5 <| W.block ?_; obtain ⟨I29, μ30, hv, hk36⟩ := hv; refine Jz (σ := Int) (fun z28 w1 => I29 z28 /\ St TT w none w1 []) (fun z28 => [(0, nI n), (2, .bool false), (3, nI z28)]) (fun z28 => μ30 z28) (2 : Int) ⟨hv, hS⟩ ⟨rfl, rfl, rfl, trivial⟩ ?_; rintro z28 w31 ⟨hv, hS⟩; have hv := hk36 z28 hv; refine Jc 7 <| Jf rfl (fun c32 => ?_) (fun c32 => ?_)
 .have hv := hv.1 (oT c32); refine Ji <| Js <| W.block <| Jc 4 ?_; obtain ⟨o33, hv⟩ := hv; refine Qa (r := (n.tmod z28)) rfl rfl o33 rfl rfl <| Jb 2 <| Jf rfl (fun c34 => ?_) (fun c34 => ?_)
  .have hv := hv.1 (oT c34); refine Jc 4 <| W.ret <| ⟨_, rfl, Fin.nil ?_⟩
   exact (hS.pick [] rfl).fin rfl ⟨false, rfl, rfl, hv⟩
  have hv := hv.2 (oF c34); refine Ji <| Jc 2 ?_; obtain ⟨o35, hv⟩ := hv; refine WL.add (r := (z28 + 1)) rfl rfl (wr o35) rfl <| Jb 2 ?_; exact ⟨(z28 + 1), sp rfl, hv.2, rfl, hv.1, hS⟩
 have hv := hv.2 (oF c32); refine Ju <| Jc 4 <| W.ret <| ⟨_, rfl, Fin.nil ?_⟩
 exact (hS.pick [] rfl).fin rfl ⟨true, rfl, rfl, hv⟩
end Go.Proofs.YtjgpkljepgcekaaGreat
namespace Go.Proofs.YtjgpkljepgcekaaGreat
open Go.RowKit
end Go.Proofs.YtjgpkljepgcekaaGreat
namespace Go.Proofs.YtjgpkljepgcekaaGreat
open Go.RowKit
/-! ### append of zeros onto nil; lists joined -/
section
variable {P : Program} {n : Nat} {ro : Option Nat} {df : List Deferred} {N : J6} {L : Fr} {w w0 : World} {ops : Array Oper} {rest : List Oper}
variable {d : Nat} {ty : TypeId} {pos : String} {af : Array Edge} {X : World -> Prop} {mr : Option Nat} {R : List Rw}
/-- 'append' of new zero elements onto nil; of what it makes, only the room is Jqt. -/
theorem Joj {x y : Operand} {t tn e by_ : Nat} {zero : Value} {k : Nat} (hS : St X w0 mr w R) (ht : P.underlying t = some (.slice e)) (htn : P.underlying tn = some (.int .i64)) (he : Elem P e 1 by_ zero)
    (hx : ev L x = some (.slice none 0 0)) (hy : ev L y = some (.int .i64 (k : Int))) (h0 : 0 < k) (hk : k <= 1000000) (hby : by_ <= 1000) (hn : Nat.blt d n = true)
    (h : ∀ A c w', k <= c -> St X w0 mr w' (.row e 1 A 0 c [] :: R) -> WL P n ro df ops rest N ((d, .slice A k c) :: L) w') :
    WL P n ro df ops (⟨some d, .call ⟨.builtin .append, #[x, y], #[t, tn]⟩, ty, pos, af, none⟩ :: rest) N L w := by
  obtain ⟨inf, i1, i2, i3, i4⟩ := he.ex
  have hr := Lib.run_append_nil_zeros (P := P) w t tn ty e inf zero .i64 .i64 ht htn i1 i2 k h0 (by omega) (by omega) (by
    have : k * inf.bytes <= 1000000 * 1000 := Nat.mul_le_mul hk (by omega)
    omega)
  generalize hcap : grownCap w k 0 e = cap at hr
  have hge : k <= cap := by rw [<- hcap]; exact grownCap_ge w k 0 e
  have hle : cap <= maxLen := by rw [<- hcap]; exact grownCap_le_maxLen w k 0 e (by simp only [maxLen]; omega)
  have hG : w.grownBy (w.drew.alloc (.cells (Builtin.zeroCells zero.cells k ++ Builtin.zeroCells zero.cells (cap - k)) e)) none := ⟨rfl, rfl, rfl, by simp, fun q hq _ => heap_alloc_old w.drew _ hq⟩
  have hz := he.zs
  have key := h (some ⟨w.heap.size, 0, none⟩) cap _ hge (hS.push hG (r := .row e 1 (some ⟨w.heap.size, 0, none⟩) 0 cap []) ⟨⟨rfl, .inr ⟨w.heap.size, _, _, rfl, Nat.zero_le _, heap_alloc_new w.drew _, Nat.zero_le _, hle, (by simp only [Array.size_append, size_zeroCells, hz]; omega), (by simp)⟩⟩, fun g hg => .inl (by cases hg; exact hS.size)⟩ fun g hg => by cases hg; exact Nat.le_refl _)
  exact WL.val rfl rfl hn (fun a ha => by simp [execOp, resolve, invoke, builtin, ha.ev hx, ha.ev hy, hr]) key
theorem Jqa {x : Operand} {A : Option Addr} {m c : Nat} {t e : TypeId} (ht : P.underlying t = some (.slice e)) (hx : ev L x = some (.slice A m c)) (hn : Nat.blt d n = true) (h : WL P n ro df ops rest N ((d, .int .i64 c) :: L) w) :
  WL P n ro df ops (⟨some d, .call ⟨.builtin .cap, #[x], #[t]⟩, ty, pos, af, none⟩ :: rest) N L w :=
 WL.val rfl rfl hn (fun a ha => by simp [execOp, resolve, invoke, builtin, Builtin.cap_, ha.ev hx, run_underlying ht, goInt]) h
end
theorem Jef {zs : LL} {k : Nat} (h : k < zs.length) : (zs.take (k + 1)).flatten = (zs.take k).flatten ++ zs.getD k [] := by
 rw [List.take_add_one, YO (d := []) h, List.flatten_append]; simp
def Jdi (zs : LL) (i : Nat) : Nat := ((zs.take i).flatten).length
theorem Jfy {zs : LL} {i : Nat} (h : i < zs.length) : Jdi zs (i + 1) = Jdi zs i + (zs.getD i []).length := by
 unfold Jdi; rw [Jef h, List.length_append]
theorem Jgq {zs : LL} (i : Nat) : Jdi zs i <= zs.flatten.length := by
 unfold Jdi
 conv => rhs; rw [<- List.take_append_drop i zs, List.flatten_append, List.length_append]
 omega
end Go.Proofs.YtjgpkljepgcekaaGreat
namespace Go.Proofs.YtjgpkljepgcekaaGreat
open Go.RowKit
/-! ### slices.Concat of lists of ints -/
theorem Jvp {w : World} {k : Nat} (hk : k <= 1000000) :
    Calls Tryz.prog 113 #[.slice none 0 0, .int .i64 (k : Int)] w fun e w' => ∃ v Qr, e = .returned v /\ w.grownBy w' none /\ Rows w.heap.size none w' Qr /\ News w.heap.size Qr /\ ∃ (A0 : Option Addr) (k0 : Nat), v = .slice A0 0 k0 /\ Qr = [.row 3 1 A0 0 k0 []] := by
  refine Jk <| Jh (vs := [.slice none 0 0, .int .i64 (k : Int)]) [4] Tryz.func113 rfl rfl rfl rfl ?_
  have hS := Jp w
  refine Js <| Jt <| JT rfl rfl <| Ja <| Js <| Js <| Jt <| Jl rfl rfl <| Qw rfl rfl rfl <| Ja <| Jf rfl (fun c => ?_) (fun c => ?_)
  . have := of_decide_eq_true c; omega
  refine Ji <| Js <| Js <| Jt <| Jl rfl rfl <| Jl rfl rfl <| Jqa Tryz.underlying22 rfl rfl <| Jl rfl rfl <| WL.len Tryz.underlying22 rfl rfl <| WL.sub (r := 0) rfl rfl (by decide) rfl <| WL.sub (r := (k : Int)) rfl rfl (by rw [IntKind.wrap_i64]; omega) rfl <| JT rfl rfl <| Ja <| ?_
  refine Js <| Jt <| Jl rfl rfl <| Jh8 rfl rfl rfl <| Ja <| Jf rfl (fun c => ?_) (fun c => ?_)
  . have h0 : 0 < k := by have := of_decide_eq_true c; omega
    refine Jt <| Jl rfl rfl <| Jl rfl rfl <| Jqa Tryz.underlying22 rfl rfl <| Jh6 0 Tryz.underlying22 Zj rfl rfl rfl (Nat.le_refl 0) rfl <| Jl rfl rfl <| Joj hS Tryz.underlying22 Tryz.underlying3 Zj rfl rfl h0 hk (by omega) rfl ?_
    intro A c w' hc hS
    refine Jl rfl rfl <| WL.len Tryz.underlying22 rfl rfl <| Jh6 0 Tryz.underlying22 Zj rfl rfl rfl (Nat.zero_le _) rfl <| JT rfl rfl <| Ja <| Js <| Jt <| Jl rfl rfl <| JT rfl rfl <| Ja <| W.ret <| ⟨_, rfl, Fin.nil ?_⟩
    exact ⟨_, hS.ext, hS.rows, Qb hS.rows rfl, A, c, rfl, rfl⟩
  have h0 : k = 0 := by have := of_decide_eq_false c; omega
  subst h0
  have hS := hS.nil (e := 3) (z := 1)
  refine Ji <| Js <| Jt <| Jl rfl rfl <| JT rfl rfl <| Ja <| W.ret <| ⟨_, rfl, Fin.nil ?_⟩
  exact ⟨_, hS.ext, hS.rows, Qb hS.rows rfl, none, 0, rfl, rfl⟩
def Jkr (zs : LL) (Q : LI -> Prop) : Prop := zs.flatten.length <= 1000000 /\ zs.length <= 1000 /\ Q zs.flatten
theorem Jq8 {w : World} {Q : LI -> Prop} {zs : LL} {A : Option Addr} {n k : Nat} (h0 : Rl w A n k zs) (hv : Jkr zs Q) :
  Calls Tryz.prog 86 #[.slice A n k] w fun e w' => ∃ v Qr, e = .returned v /\ w.grownBy w' none /\ Rows w.heap.size none w' Qr /\ News w.heap.size Qr /\ ∃ (r0 : LI) (A0 : Option Addr) (k0 : Nat), v = .slice A0 r0.length k0 /\ Qr = [.row 3 1 A0 r0.length k0 (is r0)] /\ Q r0 := by
 obtain rfl := h0.len; obtain ⟨hs, h⟩ := h0.heads; obtain ⟨hb, hz, hv⟩ := hv; refine Jk <| Jh (vs := [.slice A zs.length k]) [2] Tryz.func86 rfl rfl rfl rfl ?_; have hS := Jp w; refine Js <| Jt <| JT rfl rfl <| Ja <| Js <| Jt <| JT rfl rfl <| Ja <| Js <| Js <| Jt <| Jl rfl rfl <| WL.len Tryz.underlying25 rfl rfl <| Jl rfl rfl <| Ja <| W.block ?_; refine Jz (σ := Nat) (fun i w1 => i <= zs.length /\ St TT w none w1 []) (fun i => [(0, .slice A zs.length k), (2, .slice none 0 0), (3, .int .i64 (Jdi zs i : Int)), (9, .slice A zs.length k), (10, .int .i64 (zs.length : Int)), (11, .int .i64 (i : Int))]) (fun i => zs.length - i) 0 ⟨Nat.zero_le _, hS⟩ ⟨rfl, rfl, rfl, rfl, rfl, rfl, trivial⟩ ?_; rintro i w1 ⟨hi, hS⟩; have hle := Jgq (zs := zs) i; refine Js <| Jt <| Qw rfl rfl rfl <| Ja <| Js <| Jf rfl (fun c => ?_) (fun c => ?_)
 .have hlt : i < zs.length := by have := of_decide_eq_true c; omega
  have hle2 := Jgq (zs := zs) (i + 1); have hsu := Jfy hlt; obtain ⟨B, hR⟩ := h.out; have hc := (hR.ext hS.ext).at_ (Q5 hs zs hlt); refine Ji <| Js <| W.block <| Js <| Jt <| Jai i Tryz.underlying25 Jc7 rfl rfl rfl hlt (hR.ext hS.ext) rfl <| Jj Tryz.underlying22 rfl rfl hc rfl <| JT rfl rfl <| Ja <| Js <| Jt <| Jl rfl rfl <| Jl rfl rfl <| WL.len Tryz.underlying22 rfl rfl <| WL.add (r := (Jdi zs (i + 1) : Int)) rfl rfl (by rw [hsu, IntKind.wrap_i64]; omega) rfl <| JT rfl rfl <| Ja <| Js <| Jt <| Jl rfl rfl <| Qw rfl rfl rfl <| Ja <| Jf rfl (fun c => ?_) (fun c => ?_)
  .have := of_decide_eq_true c; omega
  refine Ji <| Jt <| WL.add (r := ((i + 1 : Nat) : Int)) rfl rfl (by rw [IntKind.wrap_i64]; omega) rfl <| Jl rfl rfl <| Ja <| ⟨i + 1, ⟨rfl, rfl, rfl, rfl, rfl, rfl, trivial⟩, by omega, rfl, hlt, hS⟩
 have hge : i = zs.length := by have := of_decide_eq_false c; omega
 subst hge; have hsum : Jdi zs zs.length = zs.flatten.length := by unfold Jdi; rw [List.take_length]
 rw [hsum]; refine Ju <| Js <| Jt <| Jl rfl rfl <| SL.call hS (Jvp hb) Tryz.func113 rfl Jny rfl rfl ?_; rintro _ _ w2 ⟨A0, k0, rfl, rfl⟩ hGw hS; have hS := hS.n1; refine JT rfl rfl <| Ja <| Js <| Js <| Jt <| Jl rfl rfl <| WL.len Tryz.underlying25 rfl rfl <| Jl rfl rfl <| Ja <| W.block ?_; refine Jz (σ := Nat × Option Addr × Nat) (fun q w1 => q.1 <= zs.length /\ St TT w none w1 [.row 3 1 q.2.1 (Jdi zs q.1) q.2.2 (is ((zs.take q.1).flatten))]) (fun q => [(0, .slice A zs.length k), (6, .slice q.2.1 (Jdi zs q.1) q.2.2), (25, .slice A zs.length k), (26, .int .i64 (zs.length : Int)), (27, .int .i64 (q.1 : Int))]) (fun q => zs.length - q.1) (0, A0, k0) ⟨Nat.zero_le _, hS⟩ ⟨rfl, rfl, rfl, rfl, rfl, trivial⟩ ?_; rintro ⟨i, A1, k1⟩ w3 ⟨hi, hS⟩; dsimp only at hi hS; refine Js <| Jt <| Qw rfl rfl rfl <| Ja <| Js <| Jf rfl (fun c => ?_) (fun c => ?_)
 .have hlt : i < zs.length := by have := of_decide_eq_true c; omega
  have hsu := Jfy hlt; have hle2 := Jgq (zs := zs) (i + 1); obtain ⟨B, hR⟩ := h.out; have hc := (hR.ext hS.ext).at_ (Q5 hs zs hlt); obtain ⟨B', hY⟩ := (h.ext hS.ext).at__ i hlt; refine Ji <| Js <| W.block <| Js <| Jt <| Jai i Tryz.underlying25 Jc7 rfl rfl rfl hlt (hR.ext hS.ext) rfl <| Jj Tryz.underlying22 rfl rfl hc rfl <| JT rfl rfl <| Ja <| Jt <| Jl rfl rfl <| Jl rfl rfl <| ?_; refine SL.append (cs := is ((zs.take i).flatten)) (cs' := is (zs.getD i [])) 0 (Jdi zs (i + 1)) (is ((zs.take (i + 1)).flatten)) hS rfl Tryz.underlying22 Zj hY (Qo _) rfl rfl (by simp only [maxLen]; omega) (by omega) hsu.symm (by rw [Jef hlt]; exact Qk _ _) rfl ?_; intro A2 c2 w4 hS; refine JT rfl rfl <| Ja <| Jt <| WL.add (r := ((i + 1 : Nat) : Int)) rfl rfl (by rw [IntKind.wrap_i64]; omega) rfl <| Jl rfl rfl <| Ja <| ⟨(i + 1, A2, c2), ⟨rfl, rfl, rfl, rfl, rfl, trivial⟩, (by dsimp only; omega), rfl, hlt, hS⟩
 have hge : i = zs.length := by have := of_decide_eq_false c; omega
 subst hge; rw [hsum, List.take_length] at hS; rw [hsum]; refine Ju <| Js <| Jt <| Jl rfl rfl <| JT rfl rfl <| Ja <| W.ret <| ⟨_, rfl, Fin.nil ?_⟩
 exact ⟨_, hS.ext, hS.rows, Qb hS.rows rfl, zs.flatten, A1, k1, rfl, rfl, hv⟩
end Go.Proofs.YtjgpkljepgcekaaGreat
namespace Go.Proofs.YtjgpkljepgcekaaGreat
open Go.RowKit
def Jb7 (n : Int) (Q : Int -> Prop) : Prop :=
  ∃ (I14 : Int -> Prop) (μ15 : Int -> Nat), I14 0 /\ ∀ (z13 : Int), (I14 z13 -> (((z13 < 3) -> ((0 <= z13 /\ z13 < (3 : Nat)) /\ (((gi ([(2 : Int), (3 : Int), (5 : Int)] : LI) z13) ≠ 0) /\ ((((n.tmod (gi ([(2 : Int), (3 : Int), (5 : Int)] : LI) z13)) = 0) -> (Q (gi ([(2 : Int), (3 : Int), (5 : Int)] : LI) z13))) /\ (¬ ((n.tmod (gi ([(2 : Int), (3 : Int), (5 : Int)] : LI) z13)) = 0) -> ((I64 (z13 + 1)) /\ (I14 (z13 + 1) /\ μ15 (z13 + 1) < μ15 z13))))))) /\ (¬ (z13 < 3) -> (∃ J23 : Int -> Prop, (∃ (I27 : Int -> Prop) (μ28 : Int -> Nat), I27 0 /\ ∀ (z26 : Int), (I27 z26 -> ((I64 (z26 * z26)) /\ ((((z26 * z26) <= n) -> (∃ (I35 : Int -> Prop) (μ36 : Int -> Nat), I35 0 /\ ∀ (z34 : Int), (I35 z34 -> (((z34 < 8) -> ((0 <= z34 /\ z34 < (8 : Nat)) /\ ((I64 (z26 + (gi ([(7 : Int), (11 : Int), (13 : Int), (17 : Int), (19 : Int), (23 : Int), (29 : Int), (31 : Int)] : LI) z34))) /\ (((z26 + (gi ([(7 : Int), (11 : Int), (13 : Int), (17 : Int), (19 : Int), (23 : Int), (29 : Int), (31 : Int)] : LI) z34)) ≠ 0) /\ ((((n.tmod (z26 + (gi ([(7 : Int), (11 : Int), (13 : Int), (17 : Int), (19 : Int), (23 : Int), (29 : Int), (31 : Int)] : LI) z34))) = 0) -> ((I64 (z26 + (gi ([(7 : Int), (11 : Int), (13 : Int), (17 : Int), (19 : Int), (23 : Int), (29 : Int), (31 : Int)] : LI) z34))) /\ (J23 (z26 + (gi ([(7 : Int), (11 : Int), (13 : Int), (17 : Int), (19 : Int), (23 : Int), (29 : Int), (31 : Int)] : LI) z34))))) /\ (¬ ((n.tmod (z26 + (gi ([(7 : Int), (11 : Int), (13 : Int), (17 : Int), (19 : Int), (23 : Int), (29 : Int), (31 : Int)] : LI) z34))) = 0) -> ((I64 (z34 + 1)) /\ (I35 (z34 + 1) /\ μ36 (z34 + 1) < μ36 z34)))))))) /\ (¬ (z34 < 8) -> ((I64 (z26 + 30)) /\ (I27 (z26 + 30) /\ μ28 (z26 + 30) < μ28 z26))))))) /\ (¬ ((z26 * z26) <= n) -> J23 n))))) /\ ∀ (z22 : Int), (J23 z22 -> Q z22)))))
theorem Jq4 {w : World} {Q : Int -> Prop} {n : Int}  (hv : Jb7 n Q) :
   Calls Tryz.prog 85 #[.int .i64 n] w <| Rt w fun v Qr => ∃ (r0 : Int), v = .int .i64 r0 /\ Qr = [] /\ Q r0 := by
 refine Jk <| Jh (vs := [nI n]) [2] XF85 rfl rfl rfl rfl ?_; have hS := Jp w; unfold Jb7 at hv; refine Jc 4 <| Jzn <| Jc 3 <| Jgf (vs := [nI 2, nI 3, nI 5]) (cells := #[nI 2, nI 3, nI 5]) rfl (by kernel_rfl) rfl <| Jb 2 <| W.block ?_; obtain ⟨I14, μ15, hv, hk50⟩ := hv; refine Jz (σ := Int) (fun z13 w1 => I14 z13 /\ St TT w none w1 []) (fun z13 => [(0, nI n), (2, nI 0), (9, .agg #[nI 2, nI 3, nI 5]), (10, nI z13)]) (fun z13 => μ15 z13) (0 : Int) ⟨hv, hS⟩ ⟨rfl, rfl, rfl, rfl, trivial⟩ ?_; rintro z13 w16 ⟨hv, hS⟩; have hv := hk50 z13 hv; refine Jc 5 <| Jf rfl (fun c17 => ?_) (fun c17 => ?_)
 .have hv := hv.1 (oT c17); refine Ji <| Js <| W.block <| Jc 2 ?_; obtain ⟨o18, hv⟩ := hv; refine Jfa (l := ([(2 : Int), (3 : Int), (5 : Int)] : LI)) Jkv rfl rfl rfl o18 rfl <| Jb 2 <| Jc 4 ?_; obtain ⟨o19, hv⟩ := hv; refine Qa (r := (n.tmod (gi ([(2 : Int), (3 : Int), (5 : Int)] : LI) z13))) rfl rfl o19 rfl rfl <| Jb 2 <| Jf rfl (fun c20 => ?_) (fun c20 => ?_)
  .have hv := hv.1 (oT c20); refine Jc 5 <| W.ret <| ⟨_, rfl, Fin.nil ?_⟩
   exact (hS.pick [] rfl).fin rfl ⟨(gi ([(2 : Int), (3 : Int), (5 : Int)] : LI) z13), rfl, rfl, hv⟩
  have hv := hv.2 (oF c20); refine Ji <| Jt ?_; obtain ⟨o21, hv⟩ := hv; refine WL.add (r := (z13 + 1)) rfl rfl (wr o21) rfl <| Jb 2 ?_; exact ⟨(z13 + 1), sp rfl, hv.2, rfl, hv.1, hS⟩
 have hv := hv.2 (oF c17); refine Ju <| Jc 6 <| Jzq <| Jc 5 ?_; obtain ⟨J23, hv, hk49⟩ := hv; refine Qe (σ := Int) (fun z22 w1 => J23 z22 /\ St TT w none w1 []) (fun z22 => [(2, nI 0), (5, nI z22)]) ?_ ?_
 .refine W.block ?_; obtain ⟨I27, μ28, hv, hk47⟩ := hv; refine Jz (σ := Int) (fun z26 w1 => I27 z26 /\ St TT w none w1 []) (fun z26 => [(0, nI n), (2, nI 0), (5, nI n), (6, nI z26)]) (fun z26 => μ28 z26) (0 : Int) ⟨hv, hS⟩ ⟨rfl, rfl, rfl, rfl, trivial⟩ ?_; rintro z26 w29 ⟨hv, hS⟩; have hv := hk47 z26 hv; refine Jc 5 ?_; obtain ⟨o30, hv⟩ := hv; refine WL.mul (r := (z26 * z26)) rfl rfl (wr o30) rfl <| Jb 3 <| Jf rfl (fun c31 => ?_) (fun c31 => ?_)
  .have hv := hv.1 (oT c31); refine Ji <| Js <| W.block <| Jc 2 <| Jgf (vs := [nI 7, nI 11, nI 13, nI 17, nI 19, nI 23, nI 29, nI 31]) (cells := #[nI 7, nI 11, nI 13, nI 17, nI 19, nI 23, nI 29, nI 31]) rfl (by kernel_rfl) rfl <| Jb 2 <| W.block ?_; obtain ⟨I35, μ36, hv, hk46⟩ := hv; refine Jz (σ := Int) (fun z34 w1 => I35 z34 /\ St TT w none w1 []) (fun z34 => [(0, nI n), (2, nI 0), (5, nI n), (6, nI z26), (24, .bool (decide ((z26 * z26) <= n))), (27, .agg #[nI 7, nI 11, nI 13, nI 17, nI 19, nI 23, nI 29, nI 31]), (28, nI z34)]) (fun z34 => μ36 z34) (0 : Int) ⟨hv, hS⟩ ⟨rfl, rfl, rfl, rfl, rfl, rfl, rfl, trivial⟩ ?_; rintro z34 w37 ⟨hv, hS⟩; have hv := hk46 z34 hv; refine Jc 5 <| Jf rfl (fun c38 => ?_) (fun c38 => ?_)
   .have hv := hv.1 (oT c38); refine Ji <| Js <| W.block <| Jc 2 ?_; obtain ⟨o39, hv⟩ := hv; refine Jfa (l := ([(7 : Int), (11 : Int), (13 : Int), (17 : Int), (19 : Int), (23 : Int), (29 : Int), (31 : Int)] : LI)) Jku rfl rfl rfl o39 rfl <| Jb 2 <| Jc 5 ?_; obtain ⟨o40, hv⟩ := hv; refine WL.add (r := (z26 + (gi ([(7 : Int), (11 : Int), (13 : Int), (17 : Int), (19 : Int), (23 : Int), (29 : Int), (31 : Int)] : LI) z34))) rfl rfl (wr o40) rfl ?_; obtain ⟨o41, hv⟩ := hv; refine Qa (r := (n.tmod (z26 + (gi ([(7 : Int), (11 : Int), (13 : Int), (17 : Int), (19 : Int), (23 : Int), (29 : Int), (31 : Int)] : LI) z34)))) rfl rfl o41 rfl rfl <| Jb 2 <| Jf rfl (fun c42 => ?_) (fun c42 => ?_)
    .have hv := hv.1 (oT c42); refine Jc 4 ?_; obtain ⟨o43, hv⟩ := hv; refine WL.add (r := (z26 + (gi ([(7 : Int), (11 : Int), (13 : Int), (17 : Int), (19 : Int), (23 : Int), (29 : Int), (31 : Int)] : LI) z34))) rfl rfl (wr o43) rfl <| Jb 2 <| Ju ?_; exact ⟨(z26 + (gi ([(7 : Int), (11 : Int), (13 : Int), (17 : Int), (19 : Int), (23 : Int), (29 : Int), (31 : Int)] : LI) z34)), ⟨rfl, rfl, trivial⟩, rfl, hv, hS⟩
    have hv := hv.2 (oF c42); refine Ji <| Jt ?_; obtain ⟨o44, hv⟩ := hv; refine WL.add (r := (z34 + 1)) rfl rfl (wr o44) rfl <| Jb 2 ?_; exact ⟨(z34 + 1), sp rfl, hv.2, rfl, hv.1, hS⟩
   have hv := hv.2 (oF c38); refine Ju <| Jc 2 ?_; obtain ⟨o45, hv⟩ := hv; refine WL.add (r := (z26 + 30)) rfl rfl (wr o45) rfl <| Jb 2 ?_; exact ⟨(z26 + 30), sp rfl, hv.2, rfl, hv.1, hS⟩
  have hv := hv.2 (oF c31); refine Ju ?_; exact ⟨n, ⟨rfl, rfl, trivial⟩, rfl, hv, hS⟩
 rintro z22 w48 ⟨hv, hS⟩; have hv := hk49 z22 hv; refine Jc 5 <| W.ret <| ⟨_, rfl, Fin.nil ?_⟩
 exact (hS.pick [] rfl).fin rfl ⟨z22, rfl, rfl, hv⟩
def Jd2 (n : Int) (Q : Bool -> Prop) : Prop :=
  (((2 : Int) <= n) -> (((n <= 2147483647) -> (Jb7 n (fun r14 => Q (decide (r14 = n))))) /\ (¬ (n <= 2147483647) -> Q false))) /\ (¬ ((2 : Int) <= n) -> Q false)
theorem Jvn {w : World} {Q : Bool -> Prop} {n : Int}  (hv : Jd2 n Q) :
   Calls Tryz.prog 49 #[.int .i64 n] w <| Rt w fun v Qr => ∃ (r0 : Bool), v = .bool r0 /\ Qr = [] /\ Q r0 := by
 refine Jk <| Jh (vs := [nI n]) [2] XF49 rfl rfl rfl rfl ?_; have hS := Jp w; unfold Jd2 at hv; refine Jc 8 <| Jl rfl rfl ?_; by_cases g11 : (2 : Int) <= n
 .have hv := hv.1 g11; rw [decide_eq_true g11]; refine Jb 5 <| Jl rfl rfl ?_; by_cases g12 : n <= 2147483647
  .have hv := hv.1 g12; rw [decide_eq_true g12]; refine Jb 3 <| SL.call hS (Jq4  hv) XF85 rfl XN85 rfl rfl ?_; rintro _ _ w13 ⟨r14, rfl, rfl, hv⟩ hGw13 hS; have hS := hS.n0; refine Jb 7 <| W.ret <| ⟨_, rfl, Fin.nil ?_⟩
   exact (hS.pick [] rfl).fin rfl ⟨(decide (r14 = n)), rfl, rfl, hv⟩
  have hv := hv.2 g12; rw [decide_eq_false g12]; refine Jb 7 <| W.ret <| ⟨_, rfl, Fin.nil ?_⟩
  exact (hS.pick [] rfl).fin rfl ⟨false, rfl, rfl, hv⟩
 have hv := hv.2 g11; rw [decide_eq_false g11]; refine Jb 11 <| W.ret <| ⟨_, rfl, Fin.nil ?_⟩
 exact (hS.pick [] rfl).fin rfl ⟨false, rfl, rfl, hv⟩
def YC (Pf : Int) (Mf : Int) (mf : LI) (y : LI) (Q : Int × Int × LI × Int × LL × Int -> Prop) : Prop :=
  (0 <= (y.length : Int) /\ (y.length : Int) * 24 <= 281474976710656 /\ (y.length : Int) <= 281474976710656) /\ (∃ (I31 : LL -> Int -> Prop) (μ32 : LL -> Int -> Nat), I31 (List.replicate (y.length : Int).toNat ([] : LI)) (0 : Int) /\ ∀ (x28 : LL) (z30 : Int), (I31 x28 z30 -> (((z30 < (((y.length : Int).toNat : Nat) : Int)) -> ((0 <= z30 /\ z30 <= (y.length : Nat)) /\ ((0 <= z30 /\ z30 <= (y.length : Nat)) /\ (∃ (x54 : LI), Jkr ([y.drop z30.toNat, y.take z30.toNat] : LL) (fun q => q = x54) /\ ((0 <= z30 /\ z30 < ((y.length : Int).toNat : Nat)) /\ ((I64 (z30 + 1)) /\ (I31 (sll x28 z30 x54) (z30 + 1) /\ μ32 (sll x28 z30 x54) (z30 + 1) < μ32 x28 z30))))))) /\ (¬ (z30 < (((y.length : Int).toNat : Nat) : Int)) -> (Jid Pf Mf mf (y.length : Int) x28 (fun (r68, r69, x70, c71, x72, r73) => Q (r68, r69, x70, c71, x72, r73)))))))
theorem Jel {w : World} {Q : Int × Int × LI × Int × LL × Int -> Prop} {Pf : Int} {Mf : Int} {mf : LI} {y : LI} {Bf : Nat} {Af : Option Addr} {nf kf : Nat} (hf : Rd Bf w 1 Af nf kf (is mf)) {By : Nat} {Ay : Option Addr} {ny ky : Nat} (hy : Rd By w 1 Ay ny ky (is y)) (hv : YC Pf Mf mf y Q) :
   Calls Tryz.prog 50 #[.agg #[.int .i64 Pf, .int .i64 Mf, .slice Af nf kf], .slice Ay ny ky] w <| Rt w fun v Qr => ∃ (p0 : Int) (m0 : Int) (f0 : LI) (c0 : Int) (r0 : LL) (r1 : Int) (A0f : Option Addr) (k0f : Nat) (A0 : Option Addr) (k0 : Nat) (hs0 : Hs), v = .tuple #[.agg #[.int .i64 p0, .int .i64 m0, .slice A0f f0.length k0f, .int .i64 c0, .slice A0 r0.length k0], .int .i64 r1] /\ Qr = [.row 3 1 A0f f0.length k0f (is f0), mx 22 3 A0 r0.length k0 hs0 r0] /\ Q (p0, m0, f0, c0, r0, r1) := by
 have hnf := hf.ilen; subst hnf; have hny := hy.ilen; subst hny; refine Jk <| Qs (vs := [.agg #[nI Pf, nI Mf, nS Af mf kf], nS Ay y ky]) [.cell 4 27, .tmp 5] XF50 rfl rfl rfl rfl ?_; have hS := Jp w; unfold YC at hv; refine Jc 2 <| JC (z := 3) (cs := [nI Pf, nI Mf, nS Af mf kf]) hS rfl rfl rfl rfl ?_; intro g11 w12 hS; refine SL.alloc (cs := [nI 0, nI 0, .slice none 0 0, nI 0, .slice none 0 0]) hS QE rfl rfl ?_; intro g13 w14 hS; refine Jb 2 <| Jc 3 <| WL.len Jo rfl rfl <| Jl rfl rfl <| WL.len Jo rfl rfl ?_; obtain ⟨o17, hv⟩ := hv; refine Qj (J := (y.length : Int)) hS Jy Jw rfl rfl o17 (Jbr _) rfl ?_; intro A15 w16 hS; have hS := Jcc (eI := 3) hS; refine Qd (cells := #[nI (y.length : Int), .slice A15 ((y.length : Int).toNat) ((y.length : Int).toNat)]) Jh2 rfl rfl rfl <| SL.alloc (cs := [nI 0, .slice none 0 0]) hS J7 rfl rfl ?_; intro g19 w20 hS; refine JH (cs := [nI (y.length : Int), .slice A15 ((y.length : Int).toNat) ((y.length : Int).toNat)]) 0 hS rfl J7 rfl rfl rfl rfl rfl ?_; intro w21 hS; refine Ja <| Jc 3 <| Je (off := 1) Qt rfl rfl <| Jm 0 1 Jy hS rfl rfl rfl ⟨rfl, rfl⟩ <| WL.len Jy rfl rfl <| Jb 2 <| W.block ?_; obtain ⟨I31, μ32, hv, hk82⟩ := hv; refine Jz (σ := LL × Int × Hs) (fun q w1 => match q with | (x28, z30, hs29) => I31 x28 z30 /\ St TT w none w1 [.row 52 2 (nA g19) 1 1 [nI (y.length : Int), .slice A15 ((y.length : Int).toNat) ((y.length : Int).toNat)], mx 22 3 A15 ((y.length : Int).toNat) ((y.length : Int).toNat) hs29 x28, .row 27 5 (nA g13) 1 1 [nI 0, nI 0, .slice none 0 0, nI 0, .slice none 0 0], .row 24 3 (nA g11) 1 1 [nI Pf, nI Mf, nS Af mf kf]]) (fun (x28, z30, hs29) => [(1, nS Ay y ky), (2, nP g11), (4, nP g13), (5, nI 0), (6, nP g19), (16, nI (((y.length : Int).toNat : Nat) : Int)), (17, nI z30)]) (fun (x28, z30, hs29) => μ32 x28 z30) (List.replicate (y.length : Int).toNat ([] : LI), (0 : Int), (fun _ => (none, 0))) ⟨hv, hS⟩ ⟨rfl, rfl, rfl, rfl, rfl, rfl, rfl, trivial⟩ ?_; rintro ⟨x28, z30, hs29⟩ w33 ⟨hv, hS⟩; have hv := hk82 x28 z30 hv; refine Jc 5 <| Jf rfl (fun c34 => ?_) (fun c34 => ?_)
 .have hv := hv.1 (oT c34); refine Ji <| Js <| W.block <| Jc 5 ?_; obtain ⟨o41, hv⟩ := hv; obtain ⟨o45, hv⟩ := hv; obtain ⟨x54, o61, hv⟩ := hv; have hS0 := hS; refine QN 11 (fun iA => [false, false, false, false, false, false, false, false, false, true, true].getD iA false) (fun _ => none) (fun _ v u => u = v) [⟨[], [6], true⟩, ⟨[0], [], false⟩, ⟨[], [7], true⟩, ⟨[], [1], true⟩, ⟨[], [7], true⟩, ⟨[3, 4], [], true⟩, ⟨[], [1], true⟩, ⟨[], [7], true⟩, ⟨[6, 7], [], true⟩, ⟨[5, 8], [], false⟩, ⟨[9], [], false⟩] [.k 20 (.pointer (some ((⟨g19, 0, none⟩ : Addr).add 1))), .k 21 (.slice A15 ((y.length : Int).toNat) ((y.length : Int).toNat)), .k 22 (nI z30), .k 23 (nS Ay y ky), .k 24 (nI z30), .k 25 (.slice (if ky = z30.toNat then Ay else Ay.map (·.add (z30.toNat * 1))) ((y.drop z30.toNat).length) (ky - z30.toNat)), .k 26 (nS Ay y ky), .k 27 (nI z30), .k 28 (.slice Ay ((y.take z30.toNat).length) ky), eS w33 29 22 2 [.slice (if ky = z30.toNat then Ay else Ay.map (·.add (z30.toNat * 1))) ((y.drop z30.toNat).length) (ky - z30.toNat), .slice Ay ((y.take z30.toNat).length) ky], eS w33 30 3 x54.length (is x54)] (fun _ => vbD) Jr (by kernel_rfl) rfl rfl (fun _ _ _ _ _ _ _ h => h) ?_ ?_
  . refine ⟨fun _ _ _ => Je (off := 1) Qt rfl rfl <| Ja ⟨rfl, rfl⟩, og hS fun _ _ hS => Jm 0 1 Jy hS rfl rfl rfl ⟨rfl, rfl⟩ <| Ja ⟨rfl, Jd _⟩, oC, oC, oC, fun _ _ _ => Joi Jo XE3 (hS.ro hy) rfl rfl o41 rfl <| Ja ⟨rfl, rfl⟩, oC, oC, fun _ _ _ => ZG Jo XE3 (hS.ro hy) rfl rfl o45 rfl (y.take z30.toNat).length (Jdt (hS.ro hy) o45) <| Ja ⟨rfl, rfl⟩, ?_, ?_, trivial⟩
    .intro w46 hE; have hE := hE rfl; have hS := hS.grow hE; intro RR; refine Jzv (vs := [.slice (if ky = z30.toNat then Ay else Ay.map (·.add (z30.toNat * 1))) ((y.drop z30.toNat).length) (ky - z30.toNat), .slice Ay ((y.take z30.toNat).length) ky]) Jy Jw rfl rfl rfl rfl (by simp [Value.oneCell']) rfl ?_; intro A47 k50 w48 hO51 hN52g hGw48; have hN52 : ∀ g, bl A47 = some g -> _ <= g := fun g hg => Nat.le_trans hE.size (hN52g g hg); exact Ja ⟨_, rfl, hGw48, ⟨A47, k50, rfl, hO51, hN52⟩, (fun _ => fun g hg => ⟨hN52g g hg, (hO51.bl_ge g hg).2⟩), (fun j h => by cases h)⟩
    intro w53 hE; have hE := hE rfl; have hS := hS.grow hE; rintro _ ⟨A47_9, k50_9, rfl, hO51_9, hN52_9⟩; intro RR; refine WL.call XF86 rfl XN86 rfl rfl (JJ (Jq8 (⟨_, _, hO51_9.rd, ⟨⟨_, _, _, rfl, (Jcd (Rd.win (hS.ro hy) o41))⟩, ⟨_, _, _, rfl, (Jcd (Jok (hS.ro hy) o45))⟩, trivial⟩⟩ : Rl _ _ _ _ ([y.drop z30.toNat, y.take z30.toNat] : LL)) o61)) ?_; rintro _ w58 ⟨_, hGw58, hRww58, hNww58, x54q, A55, k56, rfl, rfl, he⟩; subst he; have hO59 := (hRww58.get (i := 0) rfl).1; have hN60 : ∀ g, bl A55 = some g -> _ <= g := fun g hg => Nat.le_trans hE.size (hNww58.1 g hg); exact Ja ⟨_, rfl, hGw58, ⟨A55, k56, rfl, hO59, hN60⟩, (fun _ => fun g hg => ⟨hNww58.1 g hg, (hO59.bl_ge g hg).2⟩), (fun j h => by cases h)⟩
  intro vals w62 hT hVs hAp hCp; have hS := hS.grow hT; obtain ⟨A47_9, k50_9, hv9, hO51_9, hN52_9⟩ := hVs 9 (by decide); obtain ⟨A55_10, k56_10, hv10, hO59_10, hN60_10⟩ := hVs 10 (by decide); have hS := Ql [] hS0 hS hO59_10 hN60_10 (fun s hs => by cases hs); refine Za [(9, .slice A47_9 2 k50_9), (10, nS A55_10 x54 k56_10)] ⟨hv9, hv10, trivial⟩ <| Jn 11 rfl ?_; obtain ⟨o64, hv⟩ := hv; refine JA 2 Jy Jw hS rfl rfl rfl o64 rfl <| Ja <| Jn 12 rfl ?_; have hS := hS.pick [0, 2, 1, 3, 4] rfl; refine Q9 hS Jw o64 (hS.rd (i := 0) rfl).ilen.symm rfl rfl ?_; intro w65 hS; refine Ja <| JL <| Jt ?_; obtain ⟨o66, hv⟩ := hv; refine WL.add (r := (z30 + 1)) rfl rfl (wr o66) rfl <| Jb 2 ?_; have hS := hS.pick [1, 0, 2, 3] rfl; exact ⟨(sll x28 z30 x54, (z30 + 1), (up hs29 z30.toNat (A55_10, k56_10))), sp rfl, hv.2, rfl, hv.1, hS⟩
 have hv := hv.2 (oF c34); refine Ju <| Jc 2 <| JF 3 JY J1 hS rfl ⟨rfl, rfl⟩ rfl <| JF 0 J7 QX hS rfl ⟨rfl, rfl⟩ rfl <| SL.call hS (Jyl (hS.ro hf) (hS.rl (i := 1) rfl) hv) XF27 rfl XN27 rfl rfl ?_; rintro _ _ w67 ⟨r68, r69, x70, c71, x72, r73, A74, k75, A77, k78, hs79, rfl, rfl, hv⟩ hGw67 hS; have hS := hS.n2; refine Jb 2 <| JH (cs := [nI r68, nI r69, nS A74 x70 k75, nI c71, nS A77 x72 k78]) 4 hS rfl QE rfl rfl rfl rfl rfl ?_; intro w81 hS; refine Jb 2 <| W.ret ?_; have hS := hS.pick [1, 0, 2, 3, 4, 5] rfl
 change St _ _ _ _ [_, _, _, _, _, _] at hS
 repeat with_reducible first | refine blk.ret ?_ | refine exits.retI ?_
 refine endC.mk ⟨[.agg #[nI r68, nI r69, nS A74 x70 k75, nI c71, nS A77 x72 k78], nI r73], ⟨_, _, _, rfl, rfl, JM (cs := [nI r68, nI r69, nS A74 x70 k75, nI c71, nS A77 x72 k78]) QE Zy rfl (JE (hS.own (i := 4) rfl)), ⟨_, _, rfl, rfl, rfl⟩⟩, ?_⟩; exact (hS.pick [1, 0] rfl).fin rfl ⟨r68, r69, x70, c71, x72, r73, A74, k75, A77, k78, hs79, rfl, rfl, hv⟩
def Jaq (n : Int) (Q : Int × Int × LI × Int × LL × Int -> Prop) : Prop :=
  (((64 : Int) < n) -> (Q ((0 : Int), (0 : Int), ([] : LI), (0 : Int), ([] : LL), (6 : Int)))) /\ (¬ ((64 : Int) < n) -> (Jd2 n (fun r17 => (((!r17) = true) -> (Q ((0 : Int), (0 : Int), ([] : LI), (0 : Int), ([] : LL), (6 : Int)))) /\ ((!r17) = false -> ((((n.tmod (8 : Int)) ≠ 1) -> ((((n.tmod (8 : Int)) ≠ 7) -> (Q ((0 : Int), (0 : Int), ([] : LI), (0 : Int), ([] : LL), (6 : Int)))) /\ (¬ ((n.tmod (8 : Int)) ≠ 7) -> ((0 <= n /\ n * 8 <= 281474976710656 /\ n <= 281474976710656) /\ (∃ (I35 : LI -> Int -> Prop) (μ36 : LI -> Int -> Nat), I35 (List.replicate n.toNat (0 : Int)) (1 : Int) /\ ∀ (x33 : LI) (z34 : Int), (I35 x33 z34 -> (((z34 < n) -> ((I64 (z34 * z34)) /\ ((n ≠ 0) /\ ((0 <= ((z34 * z34).tmod n) /\ ((z34 * z34).tmod n) < (n.toNat : Nat)) /\ ((I64 (z34 + 1)) /\ (I35 (si x33 ((z34 * z34).tmod n) (1 : Int)) (z34 + 1) /\ μ36 (si x33 ((z34 * z34).tmod n) (1 : Int)) (z34 + 1) < μ36 x33 z34)))))) /\ (¬ (z34 < n) -> (∃ J45 : LI -> Prop, ((((n.tmod (8 : Int)) = 1) -> ((0 <= (0 : Int) /\ (0 : Int) < (n.toNat : Nat)) /\ (J45 (si x33 (0 : Int) (1 : Int))))) /\ (¬ ((n.tmod (8 : Int)) = 1) -> J45 x33)) /\ ∀ (x44 : LI), (J45 x44 -> (Z3  (fun (r51, r52, x53) => YC r51 r52 x53 x44 (fun (r58, r59, x60, c61, x62, r63) => Q (r58, r59, x60, c61, x62, r63)))))))))))))) /\ (¬ ((n.tmod (8 : Int)) ≠ 1) -> ((0 <= n /\ n * 8 <= 281474976710656 /\ n <= 281474976710656) /\ (∃ (I84 : LI -> Int -> Prop) (μ85 : LI -> Int -> Nat), I84 (List.replicate n.toNat (0 : Int)) (1 : Int) /\ ∀ (x82 : LI) (z83 : Int), (I84 x82 z83 -> (((z83 < n) -> ((I64 (z83 * z83)) /\ ((n ≠ 0) /\ ((0 <= ((z83 * z83).tmod n) /\ ((z83 * z83).tmod n) < (n.toNat : Nat)) /\ ((I64 (z83 + 1)) /\ (I84 (si x82 ((z83 * z83).tmod n) (1 : Int)) (z83 + 1) /\ μ85 (si x82 ((z83 * z83).tmod n) (1 : Int)) (z83 + 1) < μ85 x82 z83)))))) /\ (¬ (z83 < n) -> (∃ J94 : LI -> Prop, ((((n.tmod (8 : Int)) = 1) -> ((0 <= (0 : Int) /\ (0 : Int) < (n.toNat : Nat)) /\ (J94 (si x82 (0 : Int) (1 : Int))))) /\ (¬ ((n.tmod (8 : Int)) = 1) -> J94 x82)) /\ ∀ (x93 : LI), (J94 x93 -> (Z3  (fun (r100, r101, x102) => YC r100 r101 x102 x93 (fun (r107, r108, x109, c110, x111, r112) => Q (r107, r108, x109, c110, x111, r112)))))))))))))))))
theorem Jly {w : World} {Q : Int × Int × LI × Int × LL × Int -> Prop} {n : Int}  (hv : Jaq n Q) :
   Calls Tryz.prog 24 #[.int .i64 n] w <| Rt w fun v Qr => ∃ (p0 : Int) (m0 : Int) (f0 : LI) (c0 : Int) (r0 : LL) (r1 : Int) (A0f : Option Addr) (k0f : Nat) (A0 : Option Addr) (k0 : Nat) (hs0 : Hs), v = .tuple #[.agg #[.int .i64 p0, .int .i64 m0, .slice A0f f0.length k0f, .int .i64 c0, .slice A0 r0.length k0], .int .i64 r1] /\ Qr = [.row 3 1 A0f f0.length k0f (is f0), mx 22 3 A0 r0.length k0 hs0 r0] /\ Q (p0, m0, f0, c0, r0, r1) := by
 refine Jk <| Qs (vs := [nI n]) [.cell 2 27, .tmp 3] XF24 rfl rfl rfl rfl ?_; have hS := Jp w; unfold Jaq at hv; refine Jc 2 <| SL.alloc (cs := [nI 0, nI 0, .slice none 0 0, nI 0, .slice none 0 0]) hS QE rfl rfl ?_; intro g11 w12 hS; refine Jb 2 <| Jc 5 <| Jl rfl rfl ?_; by_cases g13 : (64 : Int) < n
 .have hv := hv.1 g13; rw [decide_eq_true g13]; refine Jb 9 <| Qy rfl rfl <| Qy rfl rfl <| Qy rfl rfl <| Jb 3 <| JX rfl <| Jc 2 <| Qd (cells := #[nI 0, nI 0, .slice none 0 0, nI 0, .slice none 0 0]) XB27 rfl rfl rfl <| JH (cs := [nI 0, nI 0, .slice none 0 0, nI 0, .slice none 0 0]) 0 hS rfl QE rfl rfl rfl rfl rfl ?_; intro w14 hS; refine Jb 2 <| W.ret ?_; have hS := hS.nil (e := 3) (z := 1); have hS := hS.mxNil 22 3; have hm4 := hS.mxlen (i := 0) rfl; have hS := hS.relenMx (i := 0) rfl hm4.symm
  change St _ _ _ _ [_, _, _] at hS
  repeat with_reducible first | refine blk.ret ?_ | refine exits.retI ?_
  refine endC.mk ⟨[.agg #[nI 0, nI 0, .slice none 0 0, nI 0, .slice none 0 0], nI 6], ⟨_, _, _, rfl, rfl, JM (cs := [nI 0, nI 0, .slice none 0 0, nI 0, .slice none 0 0]) QE Zy rfl (JE (hS.own (i := 2) rfl)), ⟨_, _, rfl, rfl, rfl⟩⟩, ?_⟩; exact ⟨_, hS.ext, (hS.pick [1, 0] rfl).rows, Qb (hS.pick [1, 0] rfl).rows rfl, ⟨(0 : Int), (0 : Int), ([] : LI), (0 : Int), ([] : LL), (6 : Int), none, 0, none, 0, (fun _ => (none, 0)), (by (try unfold nS); first | (rw [show (Value.slice none 0 0) = Value.slice none (([] : LL)).length 0 from sm0 hm4.symm]; done) | (rw [show (Value.slice none 0 0) = Value.slice none (([] : LL)).length 0 from sm0 hm4.symm]; rfl)), rfl, hv⟩⟩
 have hv := hv.2 g13; rw [decide_eq_false g13]; refine Jb 3 <| SL.call hS (Jvn  hv) XF49 rfl XN49 rfl rfl ?_; rintro _ _ w16 ⟨r17, rfl, rfl, hv⟩ hGw16 hS; have hS := hS.n0; refine Jb 3 <| Jl rfl rfl ?_; rcases g18 : (!r17) with _ | _
 .have hv := hv.2 g18; refine Jb 3 <| Qa (r := (n.tmod (8 : Int))) rfl rfl (by decide) rfl rfl <| Jb 3 <| Jl rfl rfl ?_; by_cases g21 : (n.tmod (8 : Int)) ≠ 1
  .have hv := hv.1 g21; rw [decide_eq_true g21]; refine Jb 3 <| Qa (r := (n.tmod (8 : Int))) rfl rfl (by decide) rfl rfl <| Jb 6 <| Jf rfl (fun c22 => ?_) (fun c22 => ?_)
   .have hv := hv.1 (oT c22); refine Jc 2 <| Qd (cells := #[nI 0, nI 0, .slice none 0 0, nI 0, .slice none 0 0]) XB27 rfl rfl rfl <| JH (cs := [nI 0, nI 0, .slice none 0 0, nI 0, .slice none 0 0]) 0 hS rfl QE rfl rfl rfl rfl rfl ?_; intro w23 hS; refine Jb 2 <| W.ret ?_; have hS := hS.nil (e := 3) (z := 1); have hS := hS.mxNil 22 3; have hm4 := hS.mxlen (i := 0) rfl; have hS := hS.relenMx (i := 0) rfl hm4.symm
    change St _ _ _ _ [_, _, _] at hS
    repeat with_reducible first | refine blk.ret ?_ | refine exits.retI ?_
    refine endC.mk ⟨[.agg #[nI 0, nI 0, .slice none 0 0, nI 0, .slice none 0 0], nI 6], ⟨_, _, _, rfl, rfl, JM (cs := [nI 0, nI 0, .slice none 0 0, nI 0, .slice none 0 0]) QE Zy rfl (JE (hS.own (i := 2) rfl)), ⟨_, _, rfl, rfl, rfl⟩⟩, ?_⟩; exact ⟨_, hS.ext, (hS.pick [1, 0] rfl).rows, Qb (hS.pick [1, 0] rfl).rows rfl, ⟨(0 : Int), (0 : Int), ([] : LI), (0 : Int), ([] : LL), (6 : Int), none, 0, none, 0, (fun _ => (none, 0)), (by (try unfold nS); first | (rw [show (Value.slice none 0 0) = Value.slice none (([] : LL)).length 0 from sm0 hm4.symm]; done) | (rw [show (Value.slice none 0 0) = Value.slice none (([] : LL)).length 0 from sm0 hm4.symm]; rfl)), rfl, hv⟩⟩
   have hv := hv.2 (oF c22); refine Ji <| Jc 3 ?_; obtain ⟨o25, hv⟩ := hv; refine Qj (J := n) hS Jo XE3 rfl rfl o25 (Qz _) rfl ?_; intro A26 w27 hS; refine Jb 2 <| Jc 5 <| W.block ?_; obtain ⟨I35, μ36, hv, hk73⟩ := hv; refine Jz (σ := LI × Int) (fun q w1 => match q with | (x33, z34) => I35 x33 z34 /\ St TT w none w1 [.row 3 1 A26 n.toNat n.toNat (is x33), .row 27 5 (nA g11) 1 1 [nI 0, nI 0, .slice none 0 0, nI 0, .slice none 0 0]]) (fun (x33, z34) => [(0, nI n), (2, nP g11), (3, nI 0), (4, .slice A26 n.toNat n.toNat), (5, nI z34)]) (fun (x33, z34) => μ36 x33 z34) (List.replicate n.toNat (0 : Int), (1 : Int)) ⟨hv, hS⟩ ⟨rfl, rfl, rfl, rfl, rfl, trivial⟩ ?_; rintro ⟨x33, z34⟩ w37 ⟨hv, hS⟩; have hv := hk73 x33 z34 hv; refine Jc 7 <| Jf rfl (fun c38 => ?_) (fun c38 => ?_)
   .have hv := hv.1 (oT c38); refine Ji <| Js <| W.block <| Jc 4 ?_; obtain ⟨o39, hv⟩ := hv; refine WL.mul (r := (z34 * z34)) rfl rfl (wr o39) rfl <| Jl rfl rfl ?_; obtain ⟨o40, hv⟩ := hv; refine Qa (r := ((z34 * z34).tmod n)) rfl rfl o40 rfl rfl ?_; obtain ⟨o41, hv⟩ := hv; refine Jg Jo XE3 (hS.rd (i := 0) rfl) rfl rfl o41 rfl <| JB (cs' := is (si x33 ((z34 * z34).tmod n) (1 : Int))) 0 ((z34 * z34).tmod n).toNat hS rfl XE3 rfl rfl rfl (Qu (hS.rd (i := 0) rfl) o41) (J9 _ _ _) ?_; intro w42 hS; refine Ja <| Jc 2 ?_; obtain ⟨o43, hv⟩ := hv; refine WL.add (r := (z34 + 1)) rfl rfl (wr o43) rfl <| Jb 2 ?_; exact ⟨(si x33 ((z34 * z34).tmod n) (1 : Int), (z34 + 1)), sp rfl, hv.2, rfl, hv.1, hS⟩
   have hv := hv.2 (oF c38); refine Ju <| Jc 4 <| Qa (r := (n.tmod (8 : Int))) rfl rfl (by decide) rfl rfl <| Jb 2 ?_; obtain ⟨J45, hv, hk72⟩ := hv; refine Qe (σ := LI) (fun x44 w1 => J45 x44 /\ St TT w none w1 [.row 3 1 A26 n.toNat n.toNat (is x44), .row 27 5 (nA g11) 1 1 [nI 0, nI 0, .slice none 0 0, nI 0, .slice none 0 0]]) (fun x44 => [(2, nP g11), (3, nI 0), (4, .slice A26 n.toNat n.toNat)]) ?_ ?_
   .refine Jf rfl (fun c46 => ?_) (fun c46 => ?_)
    .have hv := hv.1 (oT c46); refine Jc 2 ?_; obtain ⟨o47, hv⟩ := hv; refine Jg Jo XE3 (hS.rd (i := 0) rfl) rfl rfl o47 rfl <| JB (cs' := is (si x33 (0 : Int) (1 : Int))) 0 (0 : Int).toNat hS rfl XE3 rfl rfl rfl (Qu (hS.rd (i := 0) rfl) o47) (J9 _ _ _) ?_; intro w48 hS; refine Ja ?_; exact ⟨si x33 (0 : Int) (1 : Int), sp rfl, rfl, hv, hS⟩
    have hv := hv.2 (oF c46); refine Ji ?_; exact ⟨x33, sp rfl, rfl, hv, hS⟩
   rintro x44 w49 ⟨hv, hS⟩; have hv := hk72 x44 hv; refine Jc 2 <| SL.call hS (Jf4  hv) XF42 rfl XN42 rfl rfl ?_; rintro _ _ w50 ⟨r51, r52, x53, A54, k55, rfl, rfl, hv⟩ hGw50 hS; have hS := hS.n1; refine Jl rfl rfl <| SL.call hS (Jel (hS.rd (i := 0) rfl) (hS.rd (i := 1) rfl) hv) XF50 rfl XN50 rfl rfl ?_; rintro _ _ w57 ⟨r58, r59, x60, c61, x62, r63, A64, k65, A67, k68, hs69, rfl, rfl, hv⟩ hGw57 hS; have hS := hS.n2; refine Jb 2 <| JH (cs := [nI r58, nI r59, nS A64 x60 k65, nI c61, nS A67 x62 k68]) 4 hS rfl QE rfl rfl rfl rfl rfl ?_; intro w71 hS; refine Jb 2 <| W.ret ?_; have hS := hS.pick [1, 0, 2, 3, 4] rfl
   change St _ _ _ _ [_, _, _, _, _] at hS
   repeat with_reducible first | refine blk.ret ?_ | refine exits.retI ?_
   refine endC.mk ⟨[.agg #[nI r58, nI r59, nS A64 x60 k65, nI c61, nS A67 x62 k68], nI r63], ⟨_, _, _, rfl, rfl, JM (cs := [nI r58, nI r59, nS A64 x60 k65, nI c61, nS A67 x62 k68]) QE Zy rfl (JE (hS.own (i := 4) rfl)), ⟨_, _, rfl, rfl, rfl⟩⟩, ?_⟩; exact (hS.pick [1, 0] rfl).fin rfl ⟨r58, r59, x60, c61, x62, r63, A64, k65, A67, k68, hs69, rfl, rfl, hv⟩
  have hv := hv.2 g21; rw [decide_eq_false g21]; refine Jb 7 <| QA rfl <| Ji <| Jc 3 ?_; obtain ⟨o74, hv⟩ := hv; refine Qj (J := n) hS Jo XE3 rfl rfl o74 (Qz _) rfl ?_; intro A75 w76 hS; refine Jb 2 <| Jc 5 <| W.block ?_; obtain ⟨I84, μ85, hv, hk122⟩ := hv; refine Jz (σ := LI × Int) (fun q w1 => match q with | (x82, z83) => I84 x82 z83 /\ St TT w none w1 [.row 3 1 A75 n.toNat n.toNat (is x82), .row 27 5 (nA g11) 1 1 [nI 0, nI 0, .slice none 0 0, nI 0, .slice none 0 0]]) (fun (x82, z83) => [(0, nI n), (2, nP g11), (3, nI 0), (4, .slice A75 n.toNat n.toNat), (5, nI z83)]) (fun (x82, z83) => μ85 x82 z83) (List.replicate n.toNat (0 : Int), (1 : Int)) ⟨hv, hS⟩ ⟨rfl, rfl, rfl, rfl, rfl, trivial⟩ ?_; rintro ⟨x82, z83⟩ w86 ⟨hv, hS⟩; have hv := hk122 x82 z83 hv; refine Jc 7 <| Jf rfl (fun c87 => ?_) (fun c87 => ?_)
  .have hv := hv.1 (oT c87); refine Ji <| Js <| W.block <| Jc 4 ?_; obtain ⟨o88, hv⟩ := hv; refine WL.mul (r := (z83 * z83)) rfl rfl (wr o88) rfl <| Jl rfl rfl ?_; obtain ⟨o89, hv⟩ := hv; refine Qa (r := ((z83 * z83).tmod n)) rfl rfl o89 rfl rfl ?_; obtain ⟨o90, hv⟩ := hv; refine Jg Jo XE3 (hS.rd (i := 0) rfl) rfl rfl o90 rfl <| JB (cs' := is (si x82 ((z83 * z83).tmod n) (1 : Int))) 0 ((z83 * z83).tmod n).toNat hS rfl XE3 rfl rfl rfl (Qu (hS.rd (i := 0) rfl) o90) (J9 _ _ _) ?_; intro w91 hS; refine Ja <| Jc 2 ?_; obtain ⟨o92, hv⟩ := hv; refine WL.add (r := (z83 + 1)) rfl rfl (wr o92) rfl <| Jb 2 ?_; exact ⟨(si x82 ((z83 * z83).tmod n) (1 : Int), (z83 + 1)), sp rfl, hv.2, rfl, hv.1, hS⟩
  have hv := hv.2 (oF c87); refine Ju <| Jc 4 <| Qa (r := (n.tmod (8 : Int))) rfl rfl (by decide) rfl rfl <| Jb 2 ?_; obtain ⟨J94, hv, hk121⟩ := hv; refine Qe (σ := LI) (fun x93 w1 => J94 x93 /\ St TT w none w1 [.row 3 1 A75 n.toNat n.toNat (is x93), .row 27 5 (nA g11) 1 1 [nI 0, nI 0, .slice none 0 0, nI 0, .slice none 0 0]]) (fun x93 => [(2, nP g11), (3, nI 0), (4, .slice A75 n.toNat n.toNat)]) ?_ ?_
  .refine Jf rfl (fun c95 => ?_) (fun c95 => ?_)
   .have hv := hv.1 (oT c95); refine Jc 2 ?_; obtain ⟨o96, hv⟩ := hv; refine Jg Jo XE3 (hS.rd (i := 0) rfl) rfl rfl o96 rfl <| JB (cs' := is (si x82 (0 : Int) (1 : Int))) 0 (0 : Int).toNat hS rfl XE3 rfl rfl rfl (Qu (hS.rd (i := 0) rfl) o96) (J9 _ _ _) ?_; intro w97 hS; refine Ja ?_; exact ⟨si x82 (0 : Int) (1 : Int), sp rfl, rfl, hv, hS⟩
   have hv := hv.2 (oF c95); refine Ji ?_; exact ⟨x82, sp rfl, rfl, hv, hS⟩
  rintro x93 w98 ⟨hv, hS⟩; have hv := hk121 x93 hv; refine Jc 2 <| SL.call hS (Jf4  hv) XF42 rfl XN42 rfl rfl ?_; rintro _ _ w99 ⟨r100, r101, x102, A103, k104, rfl, rfl, hv⟩ hGw99 hS; have hS := hS.n1; refine Jl rfl rfl <| SL.call hS (Jel (hS.rd (i := 0) rfl) (hS.rd (i := 1) rfl) hv) XF50 rfl XN50 rfl rfl ?_; rintro _ _ w106 ⟨r107, r108, x109, c110, x111, r112, A113, k114, A116, k117, hs118, rfl, rfl, hv⟩ hGw106 hS; have hS := hS.n2; refine Jb 2 <| JH (cs := [nI r107, nI r108, nS A113 x109 k114, nI c110, nS A116 x111 k117]) 4 hS rfl QE rfl rfl rfl rfl rfl ?_; intro w120 hS; refine Jb 2 <| W.ret ?_; have hS := hS.pick [1, 0, 2, 3, 4] rfl
  change St _ _ _ _ [_, _, _, _, _] at hS
  repeat with_reducible first | refine blk.ret ?_ | refine exits.retI ?_
  refine endC.mk ⟨[.agg #[nI r107, nI r108, nS A113 x109 k114, nI c110, nS A116 x111 k117], nI r112], ⟨_, _, _, rfl, rfl, JM (cs := [nI r107, nI r108, nS A113 x109 k114, nI c110, nS A116 x111 k117]) QE Zy rfl (JE (hS.own (i := 4) rfl)), ⟨_, _, rfl, rfl, rfl⟩⟩, ?_⟩; exact (hS.pick [1, 0] rfl).fin rfl ⟨r107, r108, x109, c110, x111, r112, A113, k114, A116, k117, hs118, rfl, rfl, hv⟩
 have hv := hv.1 g18; refine Jb 4 <| Qy rfl rfl <| Qy rfl rfl <| Qy rfl rfl <| Jb 3 <| JX rfl <| Jc 2 <| Qd (cells := #[nI 0, nI 0, .slice none 0 0, nI 0, .slice none 0 0]) XB27 rfl rfl rfl <| JH (cs := [nI 0, nI 0, .slice none 0 0, nI 0, .slice none 0 0]) 0 hS rfl QE rfl rfl rfl rfl rfl ?_; intro w19 hS; refine Jb 2 <| W.ret ?_; have hS := hS.nil (e := 3) (z := 1); have hS := hS.mxNil 22 3; have hm4 := hS.mxlen (i := 0) rfl; have hS := hS.relenMx (i := 0) rfl hm4.symm
 change St _ _ _ _ [_, _, _] at hS
 repeat with_reducible first | refine blk.ret ?_ | refine exits.retI ?_
 refine endC.mk ⟨[.agg #[nI 0, nI 0, .slice none 0 0, nI 0, .slice none 0 0], nI 6], ⟨_, _, _, rfl, rfl, JM (cs := [nI 0, nI 0, .slice none 0 0, nI 0, .slice none 0 0]) QE Zy rfl (JE (hS.own (i := 2) rfl)), ⟨_, _, rfl, rfl, rfl⟩⟩, ?_⟩; exact ⟨_, hS.ext, (hS.pick [1, 0] rfl).rows, Qb (hS.pick [1, 0] rfl).rows rfl, ⟨(0 : Int), (0 : Int), ([] : LI), (0 : Int), ([] : LL), (6 : Int), none, 0, none, 0, (fun _ => (none, 0)), (by (try unfold nS); first | (rw [show (Value.slice none 0 0) = Value.slice none (([] : LL)).length 0 from sm0 hm4.symm]; done) | (rw [show (Value.slice none 0 0) = Value.slice none (([] : LL)).length 0 from sm0 hm4.symm]; rfl)), rfl, hv⟩⟩
end Go.Proofs.YtjgpkljepgcekaaGreat
namespace Go.Proofs.YtjgpkljepgcekaaGreat
open Go.RowKit
def Z4 (n : Int) (y : LI) (by0 : Int) (by1 : Int) (Q : Bool -> Prop) : Prop :=
  Jap  (fun r14 => (((!r14) = true) -> Q false) /\ ((!r14) = false -> (Jaq n (fun (r17, r18, x19, c20, x21, r22) => YV n (fun r34 => (((!r34) = true) -> (Q (decide (r22 = 6)))) /\ ((!r34) = false -> (((r22 ≠ 0) -> Q false) /\ (¬ (r22 ≠ 0) -> (ZB r17 r18 x19 c20 x21 y (fun (x38, r39) => ((r39 ≠ 0) -> Q true) /\ (¬ (r39 ≠ 0) -> (((by0 < 0) -> Q true) /\ (¬ (by0 < 0) -> (((n <= by0) -> Q true) /\ (¬ (n <= by0) -> (((by1 < 1) -> Q true) /\ (¬ (by1 < 1) -> (((n <= by1) -> Q true) /\ (¬ (n <= by1) -> ((I64 (by1 * by1)) /\ ((n ≠ 0) /\ ((0 <= n /\ n * 8 <= 281474976710656 /\ n <= 281474976710656) /\ (∃ (I60 : LI -> Int -> Prop) (μ61 : LI -> Int -> Nat), I60 (List.replicate n.toNat (0 : Int)) (0 : Int) /\ ∀ (x58 : LI) (z59 : Int), (I60 x58 z59 -> (((z59 < n) -> ((I64 (((by1 * by1).tmod n) * z59)) /\ ((I64 ((((by1 * by1).tmod n) * z59) + by0)) /\ ((n ≠ 0) /\ ((0 <= z59 /\ z59 < (x38.length : Nat)) /\ ((0 <= (((((by1 * by1).tmod n) * z59) + by0).tmod n) /\ (((((by1 * by1).tmod n) * z59) + by0).tmod n) < (n.toNat : Nat)) /\ ((I64 (z59 + 1)) /\ (I60 (si x58 (((((by1 * by1).tmod n) * z59) + by0).tmod n) (gi x38 z59)) (z59 + 1) /\ μ61 (si x58 (((((by1 * by1).tmod n) * z59) + by0).tmod n) (gi x38 z59)) (z59 + 1) < μ61 x58 z59)))))))) /\ (¬ (z59 < n) -> (Jff r17 r18 x19 c20 x21 x58 (fun (r86, r87) => ((r87 = 0) -> Q r86) /\ (¬ (r87 = 0) -> Q false)))))))))))))))))))))))))))))
theorem Jhe {w : World} {Q : Bool -> Prop} {n : Int} {y : LI} {by0 : Int} {by1 : Int} {By : Nat} {Ay : Option Addr} {ny ky : Nat} (hy : Rd By w 1 Ay ny ky (is y)) (hv : Z4 n y by0 by1 Q) :
   Calls Tryz.prog 6 #[.int .i64 n, .slice Ay ny ky, .agg #[.int .i64 by0, .int .i64 by1]] w <| Rt w fun v Qr => ∃ (r0 : Bool), v = .bool r0 /\ Qr = [] /\ Q r0 := by
 have hny := hy.ilen; subst hny; refine Jk <| Jh (vs := [nI n, nS Ay y ky, .agg #[nI by0, nI by1]]) [6] XF6 rfl rfl rfl rfl ?_; have hS := Jp w; unfold Z4 at hv; refine Jc 2 <| JC (z := 2) (cs := [nI by0, nI by1]) hS rfl rfl rfl rfl ?_; intro g11 w12 hS; refine Jb 2 <| Jc 3 <| SL.call hS (Jlx  hv) XF14 rfl XN14 rfl rfl ?_; rintro _ _ w13 ⟨r14, rfl, rfl, hv⟩ hGw13 hS; have hS := hS.n0; refine Jb 2 <| Jf rfl (fun c15 => ?_) (fun c15 => ?_)
 .have hv := hv.1 (c15); refine Jc 4 <| W.ret <| ⟨_, rfl, Fin.nil ?_⟩
  exact (hS.pick [] rfl).fin rfl ⟨false, rfl, rfl, hv⟩
 have hv := hv.2 (c15); refine Ji <| Jc 3 <| SL.call hS (Jly  hv) XF24 rfl XN24 rfl rfl ?_; rintro _ _ w16 ⟨r17, r18, x19, c20, x21, r22, A23, k24, A26, k27, hs28, rfl, rfl, hv⟩ hGw16 hS; have hS := hS.n2; refine Jb 3 <| SL.alloc (cs := [nI 0, nI 0, .slice none 0 0, nI 0, .slice none 0 0]) hS QE rfl rfl ?_; intro g30 w31 hS; refine JH (cs := [nI r17, nI r18, nS A23 x19 k24, nI c20, nS A26 x21 k27]) 0 hS rfl QE rfl rfl rfl rfl rfl ?_; intro w32 hS; refine Jb 2 <| Jc 4 <| SL.call hS (Jg8  hv) XF25 rfl XN25 rfl rfl ?_; rintro _ _ w33 ⟨r34, rfl, rfl, hv⟩ hGw33 hS; have hS := hS.n0; refine Jb 2 <| Jf rfl (fun c35 => ?_) (fun c35 => ?_)
 .have hv := hv.1 (c35); refine Jc 6 <| W.ret <| ⟨_, rfl, Fin.nil ?_⟩
  exact (hS.pick [] rfl).fin rfl ⟨(decide (r22 = 6)), rfl, rfl, hv⟩
 have hv := hv.2 (c35); refine Ji <| Jc 6 <| Jf rfl (fun c36 => ?_) (fun c36 => ?_)
 .have hv := hv.1 (oT c36); refine Jc 4 <| W.ret <| ⟨_, rfl, Fin.nil ?_⟩
  exact (hS.pick [] rfl).fin rfl ⟨false, rfl, rfl, hv⟩
 have hv := hv.2 (oF c36); refine Ji <| Jc 2 <| JF 0 QE Zy hS rfl ⟨rfl, rfl⟩ rfl <| Jl rfl rfl <| SL.call hS (Jjc (hS.rd (i := 1) rfl) (hS.rl (i := 2) rfl) (hS.ro hy) hv) XF23 rfl XN23 rfl rfl ?_; rintro _ _ w37 ⟨x38, r39, A40, k41, rfl, rfl, hv⟩ hGw37 hS; have hS := hS.n1; refine Jb 6 <| Jc 5 <| Jl rfl rfl ?_; by_cases g43 : r39 ≠ 0
 .have hv := hv.1 g43; rw [decide_eq_true g43]; refine Jb 22 <| JX rfl <| Jc 4 <| W.ret <| ⟨_, rfl, Fin.nil ?_⟩
  exact (hS.pick [] rfl).fin rfl ⟨true, rfl, rfl, hv⟩
 have hv := hv.2 g43; rw [decide_eq_false g43]; refine WL.take rfl <| Yk 0 Q4 rfl rfl rfl (by decide) rfl rfl <| WL.take rfl <| Jm 4 0 XU3 hS rfl rfl rfl ⟨rfl, rfl⟩ <| Jb 3 <| Jl rfl rfl ?_; by_cases g44 : by0 < 0
 .have hv := hv.1 g44; rw [decide_eq_true g44]; refine Jb 17 <| JX rfl <| Jc 4 <| W.ret <| ⟨_, rfl, Fin.nil ?_⟩
  exact (hS.pick [] rfl).fin rfl ⟨true, rfl, rfl, hv⟩
 have hv := hv.2 g44; rw [decide_eq_false g44]; refine WL.take rfl <| Yk 0 Q4 rfl rfl rfl (by decide) rfl rfl <| WL.take rfl <| Jm 4 0 XU3 hS rfl rfl rfl ⟨rfl, rfl⟩ <| Jb 5 <| Jl rfl rfl ?_; by_cases g45 : n <= by0
 .have hv := hv.1 g45; rw [decide_eq_true g45]; refine Jb 11 <| JX rfl <| Jc 4 <| W.ret <| ⟨_, rfl, Fin.nil ?_⟩
  exact (hS.pick [] rfl).fin rfl ⟨true, rfl, rfl, hv⟩
 have hv := hv.2 g45; rw [decide_eq_false g45]; refine WL.take rfl <| Yk 1 Q4 rfl rfl rfl (by decide) rfl rfl <| WL.take rfl <| Jm 4 1 XU3 hS rfl rfl rfl ⟨rfl, rfl⟩ <| Jb 3 <| Jl rfl rfl ?_; by_cases g46 : by1 < 1
 .have hv := hv.1 g46; rw [decide_eq_true g46]; refine Jb 6 <| JX rfl <| Jc 4 <| W.ret <| ⟨_, rfl, Fin.nil ?_⟩
  exact (hS.pick [] rfl).fin rfl ⟨true, rfl, rfl, hv⟩
 have hv := hv.2 g46; rw [decide_eq_false g46]; refine WL.take rfl <| Yk 1 Q4 rfl rfl rfl (by decide) rfl rfl <| WL.take rfl <| Jm 4 1 XU3 hS rfl rfl rfl ⟨rfl, rfl⟩ <| Jb 6 <| Jf rfl (fun c47 => ?_) (fun c47 => ?_)
 .have hv := hv.1 (oT c47); refine Jc 4 <| W.ret <| ⟨_, rfl, Fin.nil ?_⟩
  exact (hS.pick [] rfl).fin rfl ⟨true, rfl, rfl, hv⟩
 have hv := hv.2 (oF c47); refine Ji <| Jc 2 <| Yk 1 Q4 rfl rfl rfl (by decide) rfl rfl <| Jm 4 1 XU3 hS rfl rfl rfl ⟨rfl, rfl⟩ <| Yk 1 Q4 rfl rfl rfl (by decide) rfl rfl <| Jm 4 1 XU3 hS rfl rfl rfl ⟨rfl, rfl⟩ ?_; obtain ⟨o48, hv⟩ := hv; refine WL.mul (r := (by1 * by1)) rfl rfl (wr o48) rfl <| Jl rfl rfl ?_; obtain ⟨o49, hv⟩ := hv; refine Qa (r := ((by1 * by1).tmod n)) rfl rfl o49 rfl rfl <| Jb 2 <| Jc 3 ?_; obtain ⟨o50, hv⟩ := hv; refine Qj (J := n) hS Jo XE3 rfl rfl o50 (Qz _) rfl ?_; intro A51 w52 hS; refine Jb 2 <| Jc 5 <| W.block ?_; obtain ⟨I60, μ61, hv, hk89⟩ := hv; refine Jz (σ := LI × Int) (fun q w1 => match q with | (x58, z59) => I60 x58 z59 /\ St TT w none w1 [.row 3 1 A51 n.toNat n.toNat (is x58), nR 3 A40 x38 k41, .row 27 5 (nA g30) 1 1 [nI r17, nI r18, nS A23 x19 k24, nI c20, nS A26 x21 k27], nR 3 A23 x19 k24, mx 22 3 A26 x21.length k27 hs28 x21, .row 45 2 (nA g11) 1 1 [nI by0, nI by1]]) (fun (x58, z59) => [(0, nI n), (5, nP g11), (6, .bool false), (7, nP g30), (9, nS A40 x38 k41), (11, nI ((by1 * by1).tmod n)), (12, .slice A51 n.toNat n.toNat), (13, nI z59)]) (fun (x58, z59) => μ61 x58 z59) (List.replicate n.toNat (0 : Int), (0 : Int)) ⟨hv, hS⟩ ⟨rfl, rfl, rfl, rfl, rfl, rfl, rfl, rfl, trivial⟩ ?_; rintro ⟨x58, z59⟩ w62 ⟨hv, hS⟩; have hv := hk89 x58 z59 hv; refine Jc 7 <| Jf rfl (fun c63 => ?_) (fun c63 => ?_)
 .have hv := hv.1 (oT c63); refine Ji <| Js <| W.block ?_; obtain ⟨o68, hv⟩ := hv; obtain ⟨o72, hv⟩ := hv; obtain ⟨o75, hv⟩ := hv; obtain ⟨o79, hv⟩ := hv; refine JN 13 [⟨[], [12], true⟩, ⟨[], [11], true⟩, ⟨[], [13], true⟩, ⟨[1, 2], [], true⟩, ⟨[], [5], true⟩, ⟨[4], [], false⟩, ⟨[3, 5], [], true⟩, ⟨[], [0], true⟩, ⟨[6, 7], [], true⟩, ⟨[], [9], true⟩, ⟨[], [13], true⟩, ⟨[9, 10], [], true⟩, ⟨[11], [], false⟩] [(74, .slice A51 n.toNat n.toNat), (75, nI ((by1 * by1).tmod n)), (76, nI z59), (77, nI (((by1 * by1).tmod n) * z59)), (78, nP g11), (79, nI by0), (80, nI ((((by1 * by1).tmod n) * z59) + by0)), (81, nI n), (82, nI (((((by1 * by1).tmod n) * z59) + by0).tmod n)), (83, nS A40 x38 k41), (84, nI z59), (85, .pointer (some ((JI A40).add z59.toNat))), (86, nI (gi x38 z59))] Jr (by kernel_rfl) rfl rfl ?_ ?_
  .refine ⟨oD, oD, oD, fun _ _ _ => WL.mul (r := (((by1 * by1).tmod n) * z59)) rfl rfl (wr o68) rfl <| Ja ⟨rfl, rfl⟩, fun _ _ _ => Yk 0 Q4 rfl rfl rfl (by decide) rfl rfl <| Ja ⟨rfl, rfl⟩, og hS fun _ _ hS => Jm 5 0 XU3 hS rfl rfl rfl ⟨rfl, rfl⟩ <| Ja ⟨rfl, Jd _⟩, fun _ _ _ => WL.add (r := ((((by1 * by1).tmod n) * z59) + by0)) rfl rfl (wr o72) rfl <| Ja ⟨rfl, rfl⟩, oD, fun _ _ _ => Qa (r := (((((by1 * by1).tmod n) * z59) + by0).tmod n)) rfl rfl o75 rfl rfl <| Ja ⟨rfl, rfl⟩, oD, oD, fun _ _ _ => Jg Jo XE3 (hS.rd (i := 1) rfl) rfl rfl o79 rfl <| Ja ⟨rfl, rfl⟩, og hS fun _ _ hS => Jj XU3 rfl rfl (JG (hS.rd (i := 1) rfl) o79) rfl <| Ja ⟨rfl, Jd _⟩, trivial⟩
  intro w81 hT; have hS := hS.grow hT; refine Jn 13 rfl ?_; obtain ⟨o82, hv⟩ := hv; refine Jg Jo XE3 (hS.rd (i := 0) rfl) rfl rfl o82 rfl <| Ja <| Jn 14 rfl <| JB (cs' := is (si x58 (((((by1 * by1).tmod n) * z59) + by0).tmod n) (gi x38 z59))) 0 (((((by1 * by1).tmod n) * z59) + by0).tmod n).toNat hS rfl XE3 rfl rfl rfl (Qu (hS.rd (i := 0) rfl) o82) (J9 _ _ _) ?_; intro w83 hS; refine Ja <| JL <| Jc 2 ?_; obtain ⟨o84, hv⟩ := hv; refine WL.add (r := (z59 + 1)) rfl rfl (wr o84) rfl <| Jb 2 ?_; exact ⟨(si x58 (((((by1 * by1).tmod n) * z59) + by0).tmod n) (gi x38 z59), (z59 + 1)), sp rfl, hv.2, rfl, hv.1, hS⟩
 have hv := hv.2 (oF c63); refine Ju <| Jc 2 <| JF 2 QE Zy hS rfl ⟨rfl, rfl⟩ rfl <| Jl rfl rfl <| SL.call hS (Jym (hS.rd (i := 3) rfl) (hS.rl (i := 4) rfl) (hS.rd (i := 0) rfl) hv) XF21 rfl XN21 rfl rfl ?_; rintro _ _ w85 ⟨r86, r87, rfl, rfl, hv⟩ hGw85 hS; have hS := hS.n0; refine Jb 6 <| Jc 4 <| Jl rfl rfl ?_; by_cases g88 : r87 = 0
 .have hv := hv.1 g88; rw [decide_eq_true g88]; refine Jb 5 <| W.ret <| ⟨_, rfl, Fin.nil ?_⟩
  exact (hS.pick [] rfl).fin rfl ⟨r86, rfl, rfl, hv⟩
 have hv := hv.2 g88; rw [decide_eq_false g88]; refine Jb 4 <| W.ret <| ⟨_, rfl, Fin.nil ?_⟩
 exact (hS.pick [] rfl).fin rfl ⟨false, rfl, rfl, hv⟩
end Go.Proofs.YtjgpkljepgcekaaGreat
namespace Go.Proofs.YtjgpkljepgcekaaGreat
abbrev Vec := Nat -> Int
def tX (m : Nat) (c : Vec) (v : Vec) : Vec := fun i => if i < m then (if i = 0 then 0 else v (i - 1)) - c i * v (m - 1) else 0
def JV (u v : Vec) : Vec := fun i => u i + v i
def vsm (a : Int) (v : Vec) : Vec := fun i => a * v i
def vz : Vec := fun _ => 0
def e0 : Vec := fun i => if i = 0 then 1 else 0
def tXn (m : Nat) (c : Vec) : Nat -> Vec -> Vec
  | 0, v => v
  | n + 1, v => tX m c (tXn m c n v)
def opr (m : Nat) (c b : Vec) : Nat -> Vec -> Vec
  | 0, _ => vz
  | n + 1, v => JV (opr m c b n v) (vsm (b n) (tXn m c n v))
def Yi (m : Nat) (c a b : Vec) : Vec := opr m c b m a
section
variable (m : Nat) (c : Vec)
theorem tX_add (u v : Vec) : tX m c (JV u v) = JV (tX m c u) (tX m c v) := by
 funext i; simp only [tX, JV]; split
 .split <;> grind
 .rfl
theorem tX_sm (a : Int) (v : Vec) : tX m c (vsm a v) = vsm a (tX m c v) := by
 funext i; simp only [tX, vsm]; split
 .split <;> grind
 .grind
theorem tX_z : tX m c vz = vz := by funext i; simp [tX, vz]
theorem Ja6 (u : Vec) : JV u vz = u := by funext i; simp [JV, vz]
theorem z_vadd (u : Vec) : JV vz u = u := by funext i; simp [JV, vz]
theorem Jft (u v : Vec) : JV u v = JV v u := by funext i; simp only [JV]; omega
theorem Zk (u v w : Vec) : JV (JV u v) w = JV u (JV v w) := by funext i; simp only [JV]; omega
theorem Jdm (a : Int) (u v : Vec) : vsm a (JV u v) = JV (vsm a u) (vsm a v) := by funext i; simp only [JV, vsm]; grind
theorem Jgl (a b : Int) (u : Vec) : vsm a (vsm b u) = vsm (a * b) u := by funext i; simp only [vsm]; grind
theorem Jop (a : Int) : vsm a vz = vz := by funext i; simp [vsm, vz]
theorem Jbk (n : Nat) (u v : Vec) : tXn m c n (JV u v) = JV (tXn m c n u) (tXn m c n v) := by
 induction n with
 | zero => rfl
 | succ n ih => simp only [tXn, ih, tX_add]
theorem Jcg (n : Nat) (a : Int) (v : Vec) : tXn m c n (vsm a v) = vsm a (tXn m c n v) := by
 induction n with
 | zero => rfl
 | succ n ih => simp only [tXn, ih, tX_sm]
theorem Jiy (n : Nat) : tXn m c n vz = vz := by
 induction n with
 | zero => rfl
 | succ n ih => simp only [tXn, ih, tX_z]
theorem Jut (n : Nat) (v : Vec) : tXn m c n (tX m c v) = tX m c (tXn m c n v) := by
 induction n with
 | zero => rfl
 | succ n ih => simp only [tXn, ih]
theorem Jdq (n k : Nat) (v : Vec) : tXn m c n (tXn m c k v) = tXn m c (n + k) v := by
 induction n with
 | zero => simp [tXn]
 | succ n ih => rw [Nat.succ_add]; simp only [tXn, ih]
variable (b : Vec)
theorem Jo4 (n : Nat) (u v : Vec) : opr m c b n (JV u v) = JV (opr m c b n u) (opr m c b n v) := by
 induction n with
 | zero => simp [opr, Ja6]
 | succ n ih => simp only [opr, ih, Jbk, Jdm]; funext i; simp only [JV]; omega
theorem Jlp (n : Nat) (a : Int) (v : Vec) : opr m c b n (vsm a v) = vsm a (opr m c b n v) := by
 induction n with
 | zero => simp [opr, Jop]
 | succ n ih => simp only [opr, ih, Jcg, Jdm, Jgl]; rw [Int.mul_comm (b n) a]
theorem opr_z (n : Nat) : opr m c b n vz = vz := by
 induction n with
 | zero => rfl
 | succ n ih => simp only [opr, ih, Jiy, Jop, Ja6]
theorem Jo3 (n k : Nat) (v : Vec) : opr m c b n (tXn m c k v) = tXn m c k (opr m c b n v) := by
 induction n with
 | zero => simp [opr, Jiy]
 | succ n ih => simp only [opr, ih, Jbk, Jcg, Jdq]; rw [Nat.add_comm n k]
theorem Ji8 (d : Vec) (n k : Nat) (v : Vec) : opr m c b n (opr m c d k v) = opr m c d k (opr m c b n v) := by
 induction n with
 | zero => simp only [opr, opr_z]
 | succ n ih => simp only [opr, ih, Jo4, Jlp, Jo3]
theorem Jvj (d : Vec) (n : Nat) (v : Vec) : opr m c (JV b d) n v = JV (opr m c b n v) (opr m c d n v) := by
 induction n with
 | zero => simp [opr, Ja6]
 | succ n ih => simp only [opr, ih]; funext i; simp only [JV, vsm]; grind
end
def vei (k : Nat) : Vec := fun i => if i = k then 1 else 0
theorem Jle {m : Nat} {c : Vec} : ∀ {k : Nat}, k < m -> tXn m c k e0 = vei k
 | 0, _ => rfl
 | k + 1, h => by
  have ih : tXn m c k e0 = vei k := Jle (by omega); simp only [tXn, ih]; funext i; simp only [tX, vei]; split
  .rw [if_neg (show ¬ m - 1 = k by omega)]; by_cases h0 : i = 0
   .subst h0; simp
   .simp only [h0, if_false]; by_cases h1 : i = k + 1
    .subst h1; simp
    .rw [if_neg (by omega), if_neg h1]; simp
  .rw [if_neg (by omega)]
theorem Jg2 {m : Nat} {c a : Vec} : ∀ {n : Nat}, n <= m -> ∀ i, opr m c a n e0 i = if i < n then a i else 0
  | 0, _, i => by simp [opr, vz]
  | n + 1, h, i => by
    simp only [opr, JV, vsm]
    rw [Jg2 (n := n) (by omega) i, Jle (by omega)]
    simp only [vei]
    by_cases h1 : i = n
    . subst h1; simp
    . by_cases h2 : i < n
      . simp [h2, h1, show i < n + 1 by omega]
      . simp [h2, h1, show ¬ i < n + 1 by omega]
def Sup (m : Nat) (v : Vec) : Prop := ∀ i, m <= i -> v i = 0
theorem Y7 {m : Nat} {c a : Vec} (h : Sup m a) : opr m c a m e0 = a := by
 funext i; rw [Jg2 (Nat.le_refl m)]; split
 .rfl
 .exact (h i (by omega)).symm
theorem Sup.z {m : Nat} : Sup m vz := fun _ _ => rfl
theorem Sup.tX {m : Nat} {c v : Vec} : Sup m (tX m c v) := fun i h => by simp [Go.Proofs.YtjgpkljepgcekaaGreat.tX, show ¬ i < m by omega]
theorem Sup.add {m : Nat} {u v : Vec} (hu : Sup m u) (hv : Sup m v) : Sup m (JV u v) := fun i h => by simp [JV, hu i h, hv i h]
theorem Sup.sm {m : Nat} {a : Int} {v : Vec} (hv : Sup m v) : Sup m (vsm a v) := fun i h => by simp [vsm, hv i h]
theorem Sup.tXn {m : Nat} {c v : Vec} (hv : Sup m v) : ∀ n, Sup m (tXn m c n v)
 | 0 => hv
 | _ + 1 => Sup.tX
theorem Sup.opr {m : Nat} {c b v : Vec} (hv : Sup m v) : ∀ n, Sup m (opr m c b n v)
 | 0 => Sup.z
 | n + 1 => (Sup.opr hv n).add (hv.tXn n).sm
theorem Z5 {m : Nat} {c a b : Vec} (ha : Sup m a) (hb : Sup m b) : Yi m c a b = Yi m c b a := by
 unfold Yi
 calc opr m c b m a = opr m c b m (opr m c a m e0) := by rw [Y7 ha]
  _ = opr m c a m (opr m c b m e0) := Ji8 ..
  _ = opr m c a m b := by rw [Y7 hb]
theorem Jla {m : Nat} {c a b d : Vec} (ha : Sup m a) (hb : Sup m b) (hd : Sup m d) : Yi m c (Yi m c a b) d = Yi m c a (Yi m c b d) := by
 rw [Z5 (a := a) (b := Yi m c b d) ha (Sup.opr hb m)]; show opr m c d m (opr m c b m a) = opr m c a m (opr m c d m b); rw [<- Ji8 m c d a m m b]; show opr m c d m (Yi m c a b) = opr m c d m (Yi m c b a); rw [Z5 ha hb]
theorem Juh {m : Nat} {c a b d : Vec} : Yi m c a (JV b d) = JV (Yi m c a b) (Yi m c a d) := Jvj ..
theorem Jug {m : Nat} {c a : Vec} (hm : 0 < m) : Yi m c a e0 = a := by
 have key : ∀ n, 0 < n -> opr m c e0 n a = a := by
  intro n
  induction n with
  | zero => intro h; omega
  | succ n ih =>
   intro _; rcases Nat.eq_zero_or_pos n with h | h
   .subst h; funext i; simp [opr, e0, JV, vsm, vz, tXn]
   .simp only [opr, ih h]; funext i; simp [e0, JV, vsm, show n ≠ 0 by omega]
 exact key m hm
def vcg (p : Int) (u v : Vec) : Prop := ∀ i, u i % p = v i % p
section
variable {p : Int} {m : Nat} {c c' u u' v v' b b' : Vec}
theorem vcg.refl (u : Vec) : vcg p u u := fun _ => rfl
theorem vcg.symm (h : vcg p u v) : vcg p v u := fun i => (h i).symm
theorem vcg.trans {w : Vec} (h : vcg p u v) (k : vcg p v w) : vcg p u w := fun i => (h i).trans (k i)
theorem Jcr {a a' d d' : Int} (h : a % p = a' % p) (k : d % p = d' % p) : (a * d) % p = (a' * d') % p := by
 rw [Int.mul_emod, h, k, <- Int.mul_emod]
theorem Jc1 {a a' d d' : Int} (h : a % p = a' % p) (k : d % p = d' % p) : (a + d) % p = (a' + d') % p := by
 rw [Int.add_emod, h, k, <- Int.add_emod]
theorem Jlf {a a' d d' : Int} (h : a % p = a' % p) (k : d % p = d' % p) : (a - d) % p = (a' - d') % p := by
 rw [Int.sub_emod, h, k, <- Int.sub_emod]
theorem vcg.add (h : vcg p u u') (k : vcg p v v') : vcg p (JV u v) (JV u' v') := fun i => Jc1 (h i) (k i)
theorem vcg.sm {a a' : Int} (ha : a % p = a' % p) (h : vcg p u u') : vcg p (vsm a u) (vsm a' u') := fun i => Jcr ha (h i)
theorem vcg.tX (hc : vcg p c c') (h : vcg p u u') : vcg p (tX m c u) (tX m c' u') := fun i => by
 simp only [Go.Proofs.YtjgpkljepgcekaaGreat.tX]; split
 .split
  .exact Jlf rfl (Jcr (hc i) (h _))
  .exact Jlf (h _) (Jcr (hc i) (h _))
 .rfl
theorem vcg.tXn (hc : vcg p c c') (h : vcg p u u') : ∀ n, vcg p (tXn m c n u) (tXn m c' n u')
 | 0 => h
 | n + 1 => vcg.tX hc (vcg.tXn hc h n)
theorem vcg.opr (hc : vcg p c c') (hb : vcg p b b') (h : vcg p u u') : ∀ n, vcg p (opr m c b n u) (opr m c' b' n u')
 | 0 => .refl _
 | n + 1 => (vcg.opr hc hb h n).add (vcg.sm (hb n) (vcg.tXn hc h n))
theorem vcg.mul (hc : vcg p c c') (h : vcg p u u') (hb : vcg p b b') : vcg p (Yi m c u b) (Yi m c' u' b') := vcg.opr hc hb h m
end
end Go.Proofs.YtjgpkljepgcekaaGreat
namespace Go.Proofs.YtjgpkljepgcekaaGreat
def dv (p x : Nat) : Vec := fun i => ((x / p ^ i % p : Nat) : Int)
def vl (p : Nat) : Nat -> Vec -> Int
  | 0, _ => 0
  | n + 1, v => v 0 + (p : Int) * vl p n (fun i => v (i + 1))
def Cn (p n : Nat) (v : Vec) : Prop := ∀ i, i < n -> 0 <= v i /\ v i < p
def nm (p m : Nat) (v : Vec) : Nat := (vl p m (fun i => v i % (p : Int))).toNat
theorem Zv (p x i : Nat) : dv p x (i + 1) = dv p (x / p) i := by
 simp only [dv]; rw [Nat.pow_succ', <- Nat.div_div_eq_div_mul]
theorem YP (p x : Nat) : dv p x 0 = ((x % p : Nat) : Int) := by simp [dv]
theorem Cn.tl {p n : Nat} {v : Vec} (h : Cn p (n + 1) v) : Cn p n (fun i => v (i + 1)) := fun i hi => h (i + 1) (by omega)
theorem Joq {p : Nat} (hp : 0 < p) : ∀ {n : Nat} {v : Vec}, Cn p n v -> 0 <= vl p n v /\ vl p n v < ((p ^ n : Nat) : Int)
 | 0, v, _ => by simp [vl]
 | n + 1, v, h => by
  have ih := Joq hp h.tl; have h0 := h 0 (by omega); simp only [vl]; have h1 : (p : Int) * vl p n (fun i => v (i + 1)) <= p * (((p ^ n : Nat) : Int) - 1) := Int.mul_le_mul_of_nonneg_left (by omega) (by omega); have h2 : 0 <= (p : Int) * vl p n (fun i => v (i + 1)) := Int.mul_nonneg (by omega) ih.1; have h3 : ((p ^ (n + 1) : Nat) : Int) = p * ((p ^ n : Nat) : Int) := by rw [Nat.pow_succ']; push_cast; rfl
  have h4 : (p : Int) * (((p ^ n : Nat) : Int) - 1) = p * ((p ^ n : Nat) : Int) - p := by rw [Int.mul_sub, Int.mul_one]
  omega
theorem Jd7 {p : Nat} : ∀ {n : Nat} {u v : Vec}, (∀ i, i < n -> u i = v i) -> vl p n u = vl p n v
 | 0, _, _, _ => rfl
 | n + 1, u, v, h => by simp only [vl]; rw [h 0 (by omega), Jd7 (n := n) fun i hi => h (i + 1) (by omega)]
theorem Jui {p : Nat} (hp : 0 < p) : ∀ {n x : Nat}, x < p ^ n -> vl p n (dv p x) = x
 | 0, x, h => by simp at h; subst h; rfl
 | n + 1, x, h => by
  simp only [vl]; have : (fun i => dv p x (i + 1)) = dv p (x / p) := by funext i; exact Zv p x i
  rw [this, Jui hp (n := n) (by rw [Nat.div_lt_iff_lt_mul hp, <- Nat.pow_succ]; exact h), YP]; have := Nat.mod_add_div x p; have h2 : ((x % p + p * (x / p) : Nat) : Int) = (x : Int) := by rw [this]
  push_cast at h2 ⊢; exact h2
theorem dv_vl {p : Nat} (hp : 0 < p) : ∀ {n : Nat} {v : Vec}, Cn p n v -> ∀ i, i < n -> dv p (vl p n v).toNat i = v i
 | 0, _, _, i, hi => by omega
 | n + 1, v, h, i, hi => by
  have ih := Joq hp h.tl; have h0 := h 0 (by omega); obtain ⟨t, ht⟩ := Int.eq_ofNat_of_zero_le ih.1; obtain ⟨a, ha⟩ := Int.eq_ofNat_of_zero_le h0.1; have hv : (vl p (n + 1) v).toNat = a + p * t := by
   simp only [vl]; rw [ht, ha]; have : (a : Int) + (p : Int) * (t : Int) = ((a + p * t : Nat) : Int) := by push_cast; rfl
   rw [this]; rfl
  have hap : a < p := by have := h0.2; rw [ha] at this; omega
  rw [hv]; cases i with
  | zero => rw [YP, Nat.add_mul_mod_self_left, Nat.mod_eq_of_lt hap, ha]
  | succ i =>
   rw [Zv]; have h2 : (a + p * t) / p = t := by rw [Nat.add_mul_div_left _ _ hp, Nat.div_eq_of_lt hap, Nat.zero_add]
   have ih2 := dv_vl hp h.tl i (by omega); rw [ht] at ih2; rw [h2]; exact ih2
section
variable {p m : Nat}
theorem md_cn (hp : 0 < p) (v : Vec) (n : Nat) : Cn p n (fun i => v i % (p : Int)) := fun i _ => ⟨Int.emod_nonneg _ (by omega), Int.emod_lt_of_pos _ (by omega)⟩
theorem Ja0 (hp : 0 < p) (v : Vec) : nm p m v < p ^ m := by
 have := Joq hp (md_cn hp v m); unfold nm; omega
theorem Jps (hp : 0 < p) (v : Vec) {i : Nat} (hi : i < m) : dv p (nm p m v) i = v i % (p : Int) := dv_vl hp (md_cn hp v m) i hi
theorem Jf8 (hp : 0 < p) (x n : Nat) : Cn p n (dv p x) := fun i _ => by
 have := Nat.mod_lt (x / p ^ i) hp; simp only [dv]; omega
theorem Jwc {x i : Nat} (hx : x < p ^ m) (hi : m <= i) : dv p x i = 0 := by
 rcases Nat.eq_zero_or_pos p with rfl | hp
 .simp only [dv]; cases m with
  | zero =>
   have : x = 0 := by simpa using hx
   subst this; simp
  | succ m => simp at hx
 .have : x / p ^ i = 0 := Nat.div_eq_of_lt (Nat.lt_of_lt_of_le hx (Nat.pow_le_pow_right hp hi)); simp [dv, this]
theorem Yf {x : Nat} (hx : x < p ^ m) : Sup m (dv p x) := fun i hi => Jwc hx hi
theorem Jba (x i : Nat) : dv p x i % (p : Int) = dv p x i := by
 simp only [dv]; rw [<- Int.natCast_emod, Nat.mod_mod]
theorem Ja1 (hp : 0 < p) {x : Nat} (hx : x < p ^ m) : nm p m (dv p x) = x := by
 unfold nm; rw [Jd7 (v := dv p x) fun i _ => Jba x i, Jui hp hx]; rfl
theorem Jvs {u v : Vec} (h : ∀ i, i < m -> u i % (p : Int) = v i % (p : Int)) : nm p m u = nm p m v := by
 unfold nm; rw [Jd7 h]
theorem Y3 {u v : Vec} (h : vcg p u v) : nm p m u = nm p m v := Jvs fun i _ => h i
theorem Jj9 (hp : 0 < p) {v : Vec} (hv : Sup m v) : vcg p (dv p (nm p m v)) v := fun i => by
 rcases Nat.lt_or_ge i m with h | h
 .rw [Jps hp v h, Int.emod_emod]
 .rw [Jwc (Ja0 hp v) h, hv i h]
theorem nm_eq (hp : 0 < p) {x : Nat} {v : Vec} (hx : x < p ^ m) (h : ∀ i, i < m -> dv p x i = v i % (p : Int)) : nm p m v = x := by
 rw [<- Ja1 hp hx]; exact Jvs fun i hi => by rw [h i hi, Int.emod_emod]
end
def JU (p m x y : Nat) : Nat := nm p m (JV (dv p x) (dv p y))
def QP (p m x : Nat) : Nat := nm p m (vsm (-1) (dv p x))
def Jv (p m : Nat) (c : Vec) (x y : Nat) : Nat := nm p m (Yi m c (dv p x) (dv p y))
section
variable {p m : Nat} {c : Vec}
theorem Jpp (hp : 0 < p) (x y : Nat) : JU p m x y < p ^ m := Ja0 hp _
theorem Yl (hp : 0 < p) (x : Nat) : QP p m x < p ^ m := Ja0 hp _
theorem Jhp (hp : 0 < p) (x y : Nat) : Jv p m c x y < p ^ m := Ja0 hp _
theorem Jhu (hp : 0 < p) {x y : Nat} (hx : x < p ^ m) (hy : y < p ^ m) : vcg p (dv p (JU p m x y)) (JV (dv p x) (dv p y)) := Jj9 hp ((Yf hx).add (Yf hy))
theorem Jy6 (hp : 0 < p) {x : Nat} (hx : x < p ^ m) : vcg p (dv p (QP p m x)) (vsm (-1) (dv p x)) := Jj9 hp (Yf hx).sm
theorem Juf {a b : Vec} (ha : Sup m a) : Sup m (Yi m c a b) := Sup.opr ha m
theorem Jbw (hp : 0 < p) {x y : Nat} (hx : x < p ^ m) : vcg p (dv p (Jv p m c x y)) (Yi m c (dv p x) (dv p y)) := Jj9 hp (Juf (Yf hx))
theorem Jri (x y : Nat) : JU p m x y = JU p m y x := by unfold JU; rw [Jft]
theorem Jmi (hp : 0 < p) {x y z : Nat} (hx : x < p ^ m) (hy : y < p ^ m) (hz : z < p ^ m) : JU p m (JU p m x y) z = JU p m x (JU p m y z) := by
 show nm p m (JV (dv p (JU p m x y)) (dv p z)) = nm p m (JV (dv p x) (dv p (JU p m y z))); rw [Y3 ((Jhu hp hx hy).add (vcg.refl _)), Y3 ((vcg.refl (p := p) (dv p x)).add (Jhu hp hy hz)), Zk]
theorem Je2 (p : Nat) : dv p 0 = vz := by funext i; simp [dv, vz]
theorem Jrh (hp : 0 < p) {x : Nat} (hx : x < p ^ m) : JU p m x 0 = x := by unfold JU; rw [Je2, Ja6, Ja1 hp hx]
theorem Yd (hp : 0 < p) {x : Nat} (hx : x < p ^ m) : JU p m x (QP p m x) = 0 := by
 show nm p m (JV (dv p x) (dv p (QP p m x))) = 0; rw [Y3 ((vcg.refl (p := p) (dv p x)).add (Jy6 hp hx))]; have : JV (dv p x) (vsm (-1) (dv p x)) = vz := by funext i; simp only [JV, vsm, vz]; omega
 rw [this, <- Je2 p, Ja1 hp (by exact Nat.pow_pos hp)]
theorem Jcu {x y : Nat} (hx : x < p ^ m) (hy : y < p ^ m) : Jv p m c x y = Jv p m c y x := by
 unfold Jv; rw [Z5 (Yf hx) (Yf hy)]
theorem Jmg (hp : 0 < p) {x y z : Nat} (hx : x < p ^ m) (hy : y < p ^ m) (hz : z < p ^ m) : Jv p m c (Jv p m c x y) z = Jv p m c x (Jv p m c y z) := by
 show nm p m (Yi m c (dv p (Jv p m c x y)) (dv p z)) = nm p m (Yi m c (dv p x) (dv p (Jv p m c y z))); rw [Y3 (vcg.mul (vcg.refl c) (Jbw hp hx) (vcg.refl _)), Y3 (vcg.mul (vcg.refl c) (vcg.refl (dv p x)) (Jbw hp hy)), Jla (Yf hx) (Yf hy) (Yf hz)]
theorem Jht (hp : 2 <= p) : dv p 1 = e0 := by
 funext i; cases i with
 | zero => rw [YP, Nat.mod_eq_of_lt (by omega)]; rfl
 | succ i =>
  have : (1 : Nat) / p ^ (i + 1) = 0 := Nat.div_eq_of_lt (Nat.one_lt_pow (by omega) (by omega)); simp [dv, this, e0]
theorem Jez (hp : 2 <= p) (hm : 0 < m) {x : Nat} (hx : x < p ^ m) : Jv p m c x 1 = x := by
 unfold Jv; rw [Jht hp, Jug hm, Ja1 (by omega) hx]
theorem Jrf (hp : 0 < p) {x : Nat} (hx : x < p ^ m) : Jv p m c x 0 = 0 := by
 rw [Jcu hx (Nat.pow_pos hp)]; unfold Jv; rw [Je2]; have : Yi m c vz (dv p x) = vz := opr_z ..; rw [this, <- Je2 p, Ja1 hp (Nat.pow_pos hp)]
theorem Jv4 (hp : 0 < p) {x y z : Nat} (hx : x < p ^ m) (hy : y < p ^ m) (hz : z < p ^ m) : Jv p m c x (JU p m y z) = JU p m (Jv p m c x y) (Jv p m c x z) := by
 show nm p m (Yi m c (dv p x) (dv p (JU p m y z))) = nm p m (JV (dv p (Jv p m c x y)) (dv p (Jv p m c x z))); rw [Y3 (vcg.mul (vcg.refl c) (vcg.refl (dv p x)) (Jhu hp hy hz)), Y3 ((Jbw (c := c) hp hx).add (Jbw hp hx)), Juh]
end
structure CR (q : Nat) (A M : Nat -> Nat -> Nat) : Prop where
  q2 : 2 <= q
  Al : ∀ x y, A x y < q
  Ml : ∀ x y, M x y < q
  Ac : ∀ x y, A x y = A y x
  Aa : ∀ {x y z}, x < q -> y < q -> z < q -> A (A x y) z = A x (A y z)
  Az : ∀ {x}, x < q -> A x 0 = x
  An : ∀ {x}, x < q -> ∃ y, y < q /\ A x y = 0
  Mc : ∀ {x y}, x < q -> y < q -> M x y = M y x
  Ma : ∀ {x y z}, x < q -> y < q -> z < q -> M (M x y) z = M x (M y z)
  M1 : ∀ {x}, x < q -> M x 1 = x
  M0 : ∀ {x}, x < q -> M x 0 = 0
  Md : ∀ {x y z}, x < q -> y < q -> z < q -> M x (A y z) = A (M x y) (M x z)
theorem Jom {p m : Nat} (c : Vec) (hp : 2 <= p) (hm : 0 < m) : CR (p ^ m) (JU p m) (Jv p m c) where
 q2 := Nat.le_trans hp (by have := Nat.pow_le_pow_right (n := p) (by omega) hm; simpa using this)
 Al := Jpp (by omega)
 Ml := Jhp (by omega)
 Ac := Jri
 Aa := Jmi (by omega)
 Az := Jrh (by omega)
 An := fun {x} hx => ⟨QP p m x, Yl (by omega) x, Yd (by omega) hx⟩
 Mc := Jcu
 Ma := Jmg (by omega)
 M1 := Jez hp hm
 M0 := Jrf (by omega)
 Md := Jv4 (by omega)
end Go.Proofs.YtjgpkljepgcekaaGreat
namespace Go.Proofs.YtjgpkljepgcekaaGreat
def pw (M : Nat -> Nat -> Nat) (g : Nat) : Nat -> Nat
  | 0 => 1
  | k + 1 => M (pw M g k) g
theorem php : ∀ (n : Nat) (f : Nat -> Nat), (∀ i, i < n + 1 -> f i < n) -> ∃ i j, i < j /\ j < n + 1 /\ f i = f j
 | 0, f, h => absurd (h 0 (by omega)) (by omega)
 | n + 1, f, h => by
  by_cases hc : ∃ i, i < n + 1 /\ f i = f (n + 1)
  .obtain ⟨i, hi, he⟩ := hc; exact ⟨i, n + 1, hi, by omega, he⟩
  .have hv := h (n + 1) (by omega); obtain ⟨i, j, hij, hj, he⟩ := php n (fun i => if f i = n then f (n + 1) else f i) (fun i hi => by
    have hne : f i ≠ f (n + 1) := fun e => hc ⟨i, hi, e⟩; have := h i (by omega); show (if f i = n then f (n + 1) else f i) < n; split
    .omega
    .omega)
   refine ⟨i, j, hij, by omega, ?_⟩; have hi1 : f i ≠ f (n + 1) := fun e => hc ⟨i, by omega, e⟩; have hj1 : f j ≠ f (n + 1) := fun e => hc ⟨j, by omega, e⟩; split at he <;> split at he <;> omega
theorem Ji0 {n : Nat} {f : Nat -> Nat} (hb : ∀ i, i < n -> f i < n) (hi : ∀ i j, i < j -> j < n -> f i ≠ f j) {y : Nat} (hy : y < n) : ∃ i, i < n /\ f i = y := by
 obtain ⟨i, j, hij, hj, he⟩ := php n (fun i => if i < n then f i else y) (fun i _ => by
  show (if i < n then f i else y) < n; split
  .rename_i h; exact hb i h
  .exact hy)
 rcases Nat.lt_or_ge j n with h | h
 .rw [if_pos h, if_pos (show i < n by omega)] at he; exact absurd he (hi i j hij h)
 .rw [if_neg (show ¬ j < n by omega), if_pos (show i < n by omega)] at he; exact ⟨i, by omega, he⟩
section
variable {q : Nat} {A M : Nat -> Nat -> Nat} (R : CR q A M)
include R
namespace CR
theorem one_lt : 1 < q := R.q2
theorem pos : 0 < q := by have := R.q2; omega
theorem I1 {x : Nat} (hx : x < q) : M 1 x = x := by rw [R.Mc R.one_lt hx, R.M1 hx]
theorem Z0 {x : Nat} (hx : x < q) : M 0 x = 0 := by rw [R.Mc R.pos hx, R.M0 hx]
theorem zA {x : Nat} (hx : x < q) : A 0 x = x := by rw [R.Ac, R.Az hx]
theorem pw_lt (g : Nat) : ∀ k, pw M g k < q
 | 0 => R.one_lt
 | k + 1 => R.Ml _ _
theorem pw_one {g : Nat} (hg : g < q) : pw M g 1 = g := R.I1 hg
theorem pw_add {g : Nat} (hg : g < q) (i : Nat) : ∀ j, pw M g (i + j) = M (pw M g i) (pw M g j)
 | 0 => (R.M1 (R.pw_lt g i)).symm
 | j + 1 => by
  show M (pw M g (i + j)) g = M (pw M g i) (M (pw M g j) g); rw [pw_add hg i j, R.Ma (R.pw_lt g i) (R.pw_lt g j) hg]
theorem pw_pw {g : Nat} (hg : g < q) (i : Nat) : ∀ j, pw M (pw M g i) j = pw M g (i * j)
 | 0 => rfl
 | j + 1 => by
  show M (pw M (pw M g i) j) (pw M g i) = _; rw [pw_pw hg i j, <- R.pw_add hg]; rfl
theorem one_pw : ∀ j, pw M 1 j = 1
 | 0 => rfl
 | j + 1 => by show M (pw M 1 j) 1 = 1; rw [one_pw j, R.M1 R.one_lt]
theorem zero_pw {n : Nat} (h : 0 < n) : pw M 0 n = 0 := by
 cases n with
 | zero => omega
 | succ n => exact R.M0 (R.pw_lt 0 n)
end CR
end
structure Gn (q : Nat) (M : Nat -> Nat -> Nat) (g : Nat) : Prop where
  lt : g < q
  one : pw M g (q - 1) = 1
  no : ∀ k, 0 < k -> k < q - 1 -> pw M g k ≠ 1
namespace Gn
variable {q g : Nat} {A M : Nat -> Nat -> Nat}
theorem per (G : Gn q M g) (R : CR q A M) (i k : Nat) : pw M g (i + (q - 1) * k) = pw M g i := by
 rw [R.pw_add G.lt, <- R.pw_pw G.lt, G.one, R.one_pw, R.M1 (R.pw_lt g i)]
theorem ne0 (G : Gn q M g) (R : CR q A M) (k : Nat) : pw M g k ≠ 0 := fun h => by
 have h1 := G.per R 0 (k + 1); have hq := R.q2; rw [Nat.zero_add] at h1; have : (q - 1) * (k + 1) = k + ((q - 1) * (k + 1) - k) := by
  have : k + 1 <= (q - 1) * (k + 1) := Nat.le_mul_of_pos_left _ (by omega); omega
 rw [this, R.pw_add G.lt, h, R.Z0 (R.pw_lt g _)] at h1; exact absurd h1 (by show ¬ (0 : Nat) = 1; omega)
theorem inj (G : Gn q M g) (R : CR q A M) {i j : Nat} (hij : i < j) (hj : j < q - 1) : pw M g i ≠ pw M g j := fun h => by
 have e1 : M (pw M g i) (pw M g (q - 1 - i)) = 1 := by rw [<- R.pw_add G.lt, show i + (q - 1 - i) = q - 1 by omega, G.one]
 have e2 : M (pw M g j) (pw M g (q - 1 - i)) = pw M g (j - i) := by
  rw [<- R.pw_add G.lt, show j + (q - 1 - i) = (j - i) + (q - 1) * 1 by omega, G.per R]
 rw [h] at e1; exact G.no (j - i) (by omega) (by omega) (e2.symm.trans e1)
theorem surj (G : Gn q M g) (R : CR q A M) {x : Nat} (h0 : 0 < x) (hx : x < q) : ∃ k, k < q - 1 /\ pw M g k = x := by
 obtain ⟨i, hi, he⟩ := Ji0 (n := q - 1) (f := fun k => pw M g k - 1) (fun i hi => by
  have := R.pw_lt g i; have := G.ne0 R i; show pw M g i - 1 < q - 1; omega) (fun i j hij hj he => by
  have h1 := G.ne0 R i; have h2 := G.ne0 R j; exact G.inj R hij hj (by omega)) (y := x - 1) (by omega)
 have := G.ne0 R i; exact ⟨i, hi, by omega⟩
open Classical in
noncomputable def lg (q : Nat) (M : Nat -> Nat -> Nat) (g x : Nat) : Nat := if h : ∃ k, k < q - 1 /\ pw M g k = x then Classical.choose h else 0
theorem xone (G : Gn q M g) (R : CR q A M) {x : Nat} (h0 : 0 < x) (hx : x < q) : pw M x (q - 1) = 1 := by
  obtain ⟨k, hk, rfl⟩ := G.surj R h0 hx
  rw [R.pw_pw G.lt, Nat.mul_comm, <- R.pw_pw G.lt, G.one, R.one_pw]
end Gn
end Go.Proofs.YtjgpkljepgcekaaGreat
namespace Go.Proofs.YtjgpkljepgcekaaGreat
structure IsLf (n d : Nat) : Prop where
  two : 2 <= d
  dvd : n % d = 0
  min : ∀ e, 2 <= e -> n % e = 0 -> d <= e
def Jwe : Nat -> Nat -> Nat
  | _, 0 => 1
  | 0, _ + 1 => 0
  | n + 1, k + 1 => Jwe n k + Jwe n (k + 1)
section
variable {q : Nat} {A M : Nat -> Nat -> Nat} (R : CR q A M)
include R
namespace CR
theorem Aac {a b c : Nat} (ha : a < q) (hb : b < q) (hc : c < q) : A (A a b) c = A (A a c) b := by
 rw [R.Aa ha hb hc, R.Ac b c, <- R.Aa ha hc hb]
theorem A4 {a b c d : Nat} (ha : a < q) (hb : b < q) (hc : c < q) (hd : d < q) : A (A a b) (A c d) = A (A a c) (A b d) := by
 rw [<- R.Aa (R.Al a b) hc hd, R.Aac ha hb hc, R.Aa (R.Al a c) hb hd]
end CR
end
end Go.Proofs.YtjgpkljepgcekaaGreat
namespace Go.Proofs.YtjgpkljepgcekaaGreat
def hz (m : Nat) (c b y : Vec) (n : Nat) : Nat -> Vec
  | 0 => vz
  | k + 1 => JV (tX m c (hz m c b y n k)) (vsm (b (n - 1 - k)) y)
theorem Jvz {m : Nat} {c b y : Vec} {n : Nat} : ∀ {k : Nat}, k <= n -> JV (tXn m c (n - k) (hz m c b y n k)) (opr m c b (n - k) y) = opr m c b n y
 | 0, _ => by simp only [hz, Nat.sub_zero]; rw [Jiy, z_vadd]
 | k + 1, h => by
  have ih := Jvz (m := m) (c := c) (b := b) (y := y) (n := n) (k := k) (by omega); obtain ⟨r, hr⟩ : ∃ r, n - k = r + 1 := ⟨n - k - 1, by omega⟩
  rw [show n - (k + 1) = r by omega]; rw [hr] at ih; rw [<- ih]; show JV (tXn m c r (JV (tX m c (hz m c b y n k)) (vsm (b (n - 1 - k)) y))) (opr m c b r y) = JV (tX m c (tXn m c r (hz m c b y n k))) (JV (opr m c b r y) (vsm (b r) (tXn m c r y))); rw [Jbk, Jcg, Jut, show n - 1 - k = r by omega, Zk, Jft (vsm _ _)]
theorem hz_all (m : Nat) (c b y : Vec) (n : Nat) : hz m c b y n n = opr m c b n y := by
 have := Jvz (m := m) (c := c) (b := b) (y := y) (n := n) (k := n) (Nat.le_refl n); rw [Nat.sub_self] at this; rw [<- this]; exact (Ja6 _).symm
def dgl (p : Nat) : Nat -> Nat -> List Nat
  | 0, _ => []
  | n + 1, x => (x % p) :: dgl p n (x / p)
theorem QZ (p : Nat) : ∀ n x, (dgl p n x).length = n
 | 0, _ => rfl
 | n + 1, x => by simp [dgl, QZ p n]
theorem Jcz (p : Nat) : ∀ n x i, i < n -> (((dgl p n x).getD i 0 : Nat) : Int) = dv p x i
 | 0, _, i, h => by omega
 | n + 1, x, 0, _ => by rw [YP]; rfl
 | n + 1, x, i + 1, h => by
  show (((dgl p n (x / p)).getD i 0 : Nat) : Int) = _; rw [Jcz p n (x / p) i (by omega), Zv]
@[reducible] noncomputable def hd0 (l : List Nat) : Nat := List.rec (motive := fun _ => Nat) 0 (fun x _ _ => x) l
@[reducible] noncomputable def tl0 (l : List Nat) : List Nat := List.rec (motive := fun _ => List Nat) [] (fun _ l _ => l) l
noncomputable def go (p a top : Nat) (cs : List Nat) : Nat -> List Nat -> List Nat -> List Nat :=
  List.rec (motive := fun _ => Nat -> List Nat -> List Nat -> List Nat) (fun _ _ _ => [])
    (fun c _ ih prev us ys => ((prev + (p - c) * top + a * hd0 ys) % p) :: ih (hd0 us) (tl0 us) (tl0 ys)) cs
noncomputable def tp (l : List Nat) : Nat -> Nat := List.rec (motive := fun _ => Nat -> Nat) (fun d => d) (fun x _ ih _ => ih x) l
noncomputable def Jl2 (p : Nat) (cs ys gs : List Nat) : List Nat -> List Nat :=
  List.rec (motive := fun _ => List Nat -> List Nat) (fun acc => acc) (fun g _ ih acc => ih (go p g (tp acc 0) cs 0 acc ys)) gs
noncomputable def az (l : List Nat) : Bool := List.rec (motive := fun _ => Bool) true (fun x _ ih => bif Nat.beq x 0 then ih else false) l
noncomputable def is1 (l : List Nat) : Bool := List.rec (motive := fun _ => Bool) false (fun x t _ => bif Nat.beq x 1 then az t else false) l
noncomputable def run (p : Nat) (cs gs : List Nat) (n : Nat) : List Nat -> Bool :=
  Nat.rec (motive := fun _ => List Nat -> Bool) (fun y => is1 y) (fun _ ih y => bif is1 y then false else ih (Jl2 p cs y gs y)) n
noncomputable def Ji2 (p c : Nat) (al : List Nat) : List Nat -> List Nat :=
  List.rec (motive := fun _ => List Nat -> List Nat) (fun bs => bs) (fun a _ ih bs => ((hd0 bs + (p - a) * c) % p) :: ih (tl0 bs)) al
noncomputable def dvg (p : Nat) (low : List Nat) (k : Nat) : List Nat -> Bool :=
  Nat.rec (motive := fun _ => List Nat -> Bool) (fun r => az r) (fun _ ih r => ih (Ji2 p (hd0 r) low (tl0 r))) k
noncomputable def nob (f : Nat -> Bool) (n : Nat) : Bool := Nat.rec (motive := fun _ => Bool) true (fun i ih => bif f i then false else ih) n
noncomputable def irrB (p m : Nat) (ml : List Nat) : Bool :=
  nob (fun d => !nob (fun w => dvg p (dgl p (d + 1) w).reverse (m - d) (1 :: ml.reverse)) (p ^ (d + 1))) (m / 2)
noncomputable def cand (p c : Nat) : List Nat := bif Nat.blt c p then [c] else bif Nat.blt c (p + p * p) then [(c - p) / p, (c - p) % p] else [(c - p - p * p) / (p * p), (c - p - p * p) / p % p, (c - p - p * p) % p]
noncomputable def gen1 (p m : Nat) (cs gs : List Nat) : Bool := run p cs gs (p ^ m - 2) (Jl2 p cs (dgl p m 1) gs (dgl p m 1))
noncomputable def Jmd (p m : Nat) (cs : List Nat) : Bool := !nob (fun c => gen1 p m cs (cand p (p + p * p + p * p * p - 1 - c))) (p + p * p + p * p * p)
noncomputable def chk (p m lo n : Nat) : Bool := nob (fun v => bif irrB p m (dgl p m (lo + v)) then !Jmd p m (dgl p m (lo + v)) else false) n

theorem Jhn (l : List Nat) : hd0 l = l.getD 0 0 := by cases l <;> rfl
theorem Jee (l : List Nat) (i : Nat) : (tl0 l).getD i 0 = l.getD (i + 1) 0 := by cases l <;> rfl
theorem Jx1 (l : List Nat) : (tl0 l).length = l.length - 1 := by cases l <;> simp [tl0]
theorem Jho (p a top c : Nat) (cs : List Nat) (prev : Nat) (us ys : List Nat) : go p a top (c :: cs) prev us ys = ((prev + (p - c) * top + a * hd0 ys) % p) :: go p a top cs (hd0 us) (tl0 us) (tl0 ys) := rfl
theorem Jv1 (p a top : Nat) : ∀ (cs : List Nat) (prev : Nat) (us ys : List Nat), (go p a top cs prev us ys).length = cs.length
 | [], _, _, _ => rfl
 | c :: cs, prev, us, ys => by rw [Jho, List.length_cons, Jv1 p a top cs, List.length_cons]
theorem go_at (p a top : Nat) : ∀ (cs : List Nat) (prev : Nat) (us ys : List Nat) (i : Nat), i < cs.length -> (go p a top cs prev us ys).getD i 0 = ((if i = 0 then prev else us.getD (i - 1) 0) + (p - cs.getD i 0) * top + a * ys.getD i 0) % p
 | [], _, _, _, i, h => by simp at h
 | c :: cs, prev, us, ys, 0, _ => by rw [Jho, Jhn]; rfl
 | c :: cs, prev, us, ys, i + 1, h => by
  rw [Jho]; show (go p a top cs (hd0 us) (tl0 us) (tl0 ys)).getD i 0 = _; rw [go_at p a top cs _ _ _ i (by simpa using h)]; cases i with
  | zero => rw [if_pos rfl, if_neg (by omega), Jhn, Jee]; rfl
  | succ i => rw [if_neg (by omega), if_neg (by omega), Jee, Jee]; rfl
theorem tp_eq : ∀ (l : List Nat) (d : Nat), 0 < l.length -> tp l d = l.getD (l.length - 1) 0
 | [], _, h => by simp at h
 | [x], d, _ => rfl
 | x :: y :: l, d, _ => by
  show tp (y :: l) x = _; rw [tp_eq (y :: l) x (by simp)]; simp
def Rep (p m : Nat) (L : List Nat) (v : Vec) : Prop := L.length = m /\ ∀ i, i < m -> ((L.getD i 0 : Nat) : Int) = v i % (p : Int)
def hl (m : Nat) (c y : Vec) : List Nat -> Vec -> Vec
  | [], u => u
  | g :: gs, u => hl m c y gs (JV (tX m c u) (vsm g y))
theorem Rep.step {p m : Nat} {cs us ys : List Nat} {c u y : Vec} (hp : 0 < p) (hm : 0 < m) (hc : Rep p m cs c) (hu : Rep p m us u) (hy : Rep p m ys y) (g : Nat) :
  Rep p m (go p g (tp us 0) cs 0 us ys) (JV (tX m c u) (vsm g y)) := by
 refine ⟨by rw [Jv1, hc.1], fun i hi => ?_⟩; rw [go_at _ _ _ _ _ _ _ _ (by rw [hc.1]; exact hi), tp_eq _ _ (by rw [hu.1]; exact hm), hu.1]; have h1 := hu.2 (m - 1) (by omega); have h2 := hc.2 i hi; have h3 := hy.2 i hi; have hlt : cs.getD i 0 <= p := by
  have := Int.emod_lt_of_pos (c i) (show (0 : Int) < p by omega); omega
 have e : (((if i = 0 then 0 else us.getD (i - 1) 0) : Nat) : Int) % p = (if i = 0 then (0 : Int) else u (i - 1)) % p := by
  split
  .rfl
  .rw [hu.2 (i - 1) (by omega), Int.emod_emod]
 simp only [JV, vsm, tX, if_pos hi]; generalize (if i = 0 then 0 else us.getD (i - 1) 0 : Nat) = A at *
 generalize (if i = 0 then (0 : Int) else u (i - 1)) = B at *
 generalize us.getD (m - 1) 0 = T at *
 generalize cs.getD i 0 = C at *
 generalize ys.getD i 0 = Y at *
 have hT : ((T : Nat) : Int) % p = u (m - 1) % p := by rw [h1, Int.emod_emod]
 have hC : ((C : Nat) : Int) % p = c i % p := by rw [h2, Int.emod_emod]
 have hY : ((Y : Nat) : Int) % p = y i % p := by rw [h3, Int.emod_emod]
 obtain ⟨D, hD⟩ : ∃ D, p = C + D := ⟨p - C, by omega⟩
 have hsub : p - C = D := by omega
 rw [hsub]; have hcast : ((A + D * T + g * Y : Nat) : Int) = ((A : Int) - C * T + g * Y) + p * T := by
  have : (p : Int) = C + D := by omega
  rw [this]; push_cast; rw [Int.add_mul]; omega
 rw [Int.natCast_emod, hcast, Int.add_mul_emod_self_left]; exact Jc1 (Jlf e (Jcr hC hT)) (Jcr rfl hY)
theorem Jrc (p : Nat) (cs ys : List Nat) (g : Nat) (gs acc : List Nat) : Jl2 p cs ys (g :: gs) acc = Jl2 p cs ys gs (go p g (tp acc 0) cs 0 acc ys) := rfl
theorem Rep.mul {p m : Nat} {cs ys : List Nat} {c y : Vec} (hp : 0 < p) (hm : 0 < m) (hc : Rep p m cs c) (hy : Rep p m ys y) : ∀ {gs us : List Nat} {u : Vec}, Rep p m us u -> Rep p m (Jl2 p cs ys gs us) (hl m c y gs u)
 | [], _, _, h => h
 | g :: gs, us, u, h => by rw [Jrc]; exact Rep.mul hp hm hc hy (Rep.step hp hm hc h hy g)
theorem Jl9 {m : Nat} {c y : Vec} (hy : Sup m y) : ∀ {gs : List Nat} {u : Vec}, Sup m u -> Sup m (hl m c y gs u)
 | [], _, h => h
 | g :: gs, u, h => Jl9 (gs := gs) (u := JV (tX m c u) (vsm g y)) hy (Sup.add Sup.tX hy.sm)
theorem Jv0 {m : Nat} {c y : Vec} (hy : Sup m y) : ∀ {gs : List Nat} {U : Vec}, hl m c y gs (opr m c y m U) = opr m c y m (hl m c e0 gs U)
  | [], _ => rfl
  | g :: gs, U => by
    show hl m c y gs (JV (tX m c (opr m c y m U)) (vsm g y)) = opr m c y m (hl m c e0 gs (JV (tX m c U) (vsm g e0)))
    rw [<- Jv0 hy, Jo4, Jlp, Y7 hy]
    have := Jo3 m c y m 1 U
    rw [show tXn m c 1 U = tX m c U from rfl, show tXn m c 1 (opr m c y m U) = tX m c (opr m c y m U) from rfl] at this
    rw [this]
theorem Jhs {m : Nat} (hm : 0 < m) : Sup m e0 := fun i hi => by simp [e0, show i ≠ 0 by omega]
theorem hl_mul {m : Nat} {c y : Vec} (hm : 0 < m) (hy : Sup m y) (gs : List Nat) : hl m c y gs y = Yi m c y (hl m c e0 gs e0) := by
 rw [Z5 hy (Jl9 (Jhs hm) (Jhs hm))]; show _ = opr m c y m (hl m c e0 gs e0); rw [<- Jv0 hy, Y7 hy]
theorem Jxr {p m x : Nat} : Rep p m (dgl p m x) (dv p x) := ⟨QZ p m x, fun i hi => by rw [Jcz p m x i hi, Jba]⟩
theorem Rep.cg {p m : Nat} {L : List Nat} {u v : Vec} (h : Rep p m L u) (hv : ∀ i, i < m -> u i % (p : Int) = v i % (p : Int)) : Rep p m L v := ⟨h.1, fun i hi => by rw [h.2 i hi, hv i hi]⟩
theorem Jza (x : Nat) (l : List Nat) : az (x :: l) = bif Nat.beq x 0 then az l else false := rfl
theorem Jhy : ∀ l : List Nat, az l = true ↔ ∀ i, i < l.length -> l.getD i 0 = 0
 | [] => ⟨fun _ i h => by simp at h, fun _ => rfl⟩
 | x :: l => by
  rw [Jza]; cases hx : Nat.beq x 0 with
  | true =>
   have := Nat.eq_of_beq_eq_true hx; subst this; rw [show (bif true then az l else false) = az l from rfl, Jhy l]; constructor
   .intro h i hi; cases i with
    | zero => rfl
    | succ i => exact h i (by simpa using hi)
   .intro h i hi; exact h (i + 1) (by simpa using hi)
  | false =>
   rw [show (bif false then az l else false) = false from rfl]; constructor
   .intro h; cases h
   .intro h; have := h 0 (by simp); simp only [List.getD_cons_zero] at this; subst this; cases hx
theorem Jpj {p m x : Nat} {L : List Nat} (hp : 2 <= p) (hm : 0 < m) (hx : x < p ^ m) (h : Rep p m L (Go.Proofs.YtjgpkljepgcekaaGreat.dv p x)) : is1 L = true ↔ x = 1 := by
 obtain ⟨a, l, rfl⟩ : ∃ a l, L = a :: l := by
  cases L with
  | nil => have := h.1; simp at this; omega
  | cons a l => exact ⟨a, l, rfl⟩
 have hlen : l.length + 1 = m := h.1; have h0 := h.2 0 hm; have e : is1 (a :: l) = bif Nat.beq a 1 then az l else false := rfl; rw [e]; constructor
 .intro hb; cases ha : Nat.beq a 1 with
  | false => rw [ha] at hb; cases hb
  | true =>
   rw [ha] at hb; have hz := (Jhy l).1 hb; have ha1 := Nat.eq_of_beq_eq_true ha; subst ha1; rw [<- Ja1 (p := p) (m := m) (by omega) hx, <- Ja1 (p := p) (m := m) (x := 1) (by omega) (Nat.one_lt_pow (by omega) (by omega))]; refine Jvs fun i hi => ?_; rw [Jht hp, Jba, <- Jba, <- h.2 i hi]; cases i with
   | zero =>
    show (1 : Int) = e0 0 % p; simp only [e0, if_pos]; exact (Int.emod_eq_of_lt (by omega) (by omega)).symm
   | succ i =>
    show ((l.getD i 0 : Nat) : Int) = e0 (i + 1) % p; rw [hz i (by omega)]; simp [e0]
 .intro hx1; subst hx1; have ha : a = 1 := by
   have : ((a : Nat) : Int) = Go.Proofs.YtjgpkljepgcekaaGreat.dv p 1 0 % p := h0; rw [Jba, Jht hp] at this; simp [e0] at this; omega
  subst ha; show az l = true; refine (Jhy l).2 fun i hi => ?_; have : ((l.getD i 0 : Nat) : Int) = Go.Proofs.YtjgpkljepgcekaaGreat.dv p 1 (i + 1) % p := h.2 (i + 1) (by omega); rw [Jba, Jht hp] at this; simp only [e0] at this; rw [if_neg (by omega)] at this; exact Int.ofNat_eq_zero.1 this
def gel (p m : Nat) (c : Vec) (gs : List Nat) : Nat := nm p m (hl m c e0 gs e0)
theorem Jk0 {p m x : Nat} {cs L gs : List Nat} {c : Vec} (hp : 2 <= p) (hm : 0 < m) (hx : x < p ^ m) (hc : Rep p m cs c) (h : Rep p m L (Go.Proofs.YtjgpkljepgcekaaGreat.dv p x)) : Rep p m (Jl2 p cs L gs L) (Go.Proofs.YtjgpkljepgcekaaGreat.dv p (Jv p m c x (gel p m c gs))) := by
 have h1 := Rep.mul (gs := gs) (by omega) hm hc h h; rw [hl_mul hm (Yf hx)] at h1; refine h1.cg fun i hi => ?_; have hs := Jl9 (c := c) (gs := gs) (Jhs hm) (Jhs hm); have e1 := Jbw (p := p) (m := m) (c := c) (by omega) hx (y := gel p m c gs); have e2 := vcg.mul (m := m) (vcg.refl (p := p) c) (vcg.refl (Go.Proofs.YtjgpkljepgcekaaGreat.dv p x)) (Jj9 (p := p) (m := m) (by omega) hs); exact ((e1.trans e2) i).symm
theorem Ju5 (p : Nat) (cs gs : List Nat) (n : Nat) (y : List Nat) : run p cs gs (n + 1) y = bif is1 y then false else run p cs gs n (Jl2 p cs y gs y) := rfl
theorem Ju6 {p m : Nat} {cs gs : List Nat} {c : Vec} (hp : 2 <= p) (hm : 0 < m) (hc : Rep p m cs c) : ∀ {n : Nat} {L : List Nat} {x : Nat}, x < p ^ m -> Rep p m L (Go.Proofs.YtjgpkljepgcekaaGreat.dv p x) -> run p cs gs n L = true ->
  (∀ k, k < n -> Jv p m c x (pw (Jv p m c) (gel p m c gs) k) ≠ 1) /\ Jv p m c x (pw (Jv p m c) (gel p m c gs) n) = 1
 | 0, L, x, hx, h, hr => by
  refine ⟨fun k hk => by omega, ?_⟩; show Jv p m c x 1 = 1; rw [Jez hp hm hx]; exact (Jpj hp hm hx h).1 hr
 | n + 1, L, x, hx, h, hr => by
  rw [Ju5] at hr; cases h1 : is1 L with
  | true => rw [h1] at hr; cases hr
  | false =>
   rw [h1] at hr; have R := Jom (p := p) (m := m) c hp hm; have hg : gel p m c gs < p ^ m := Ja0 (by omega) _; have ih := Ju6 hp hm hc (Jhp (by omega) x _) (Jk0 (gs := gs) hp hm hx hc h) hr; have e : ∀ k, Jv p m c (Jv p m c x (gel p m c gs)) (pw (Jv p m c) (gel p m c gs) k) = Jv p m c x (pw (Jv p m c) (gel p m c gs) (k + 1)) := fun k => by
    rw [R.Ma hx hg (R.pw_lt _ k), R.Mc hg (R.pw_lt _ k)]; rfl
   refine ⟨fun k hk => ?_, by rw [<- e]; exact ih.2⟩; cases k with
   | zero =>
    show Jv p m c x 1 ≠ 1; rw [Jez hp hm hx]; intro hx1; rw [(Jpj hp hm hx h).2 hx1] at h1; cases h1
   | succ k => rw [<- e]; exact ih.1 k (by omega)
theorem Jy3 {p m : Nat} {cs gs : List Nat} {c : Vec} (hp : 2 <= p) (hm : 0 < m) (hc : Rep p m cs c) (h : gen1 p m cs gs = true) : Gn (p ^ m) (Jv p m c) (gel p m c gs) := by
 have R := Jom (p := p) (m := m) c hp hm; have hg : gel p m c gs < p ^ m := Ja0 (by omega) _; have h1 := Jk0 (gs := gs) hp hm R.one_lt hc Jxr; rw [R.I1 hg] at h1; obtain ⟨h2, h3⟩ := Ju6 hp hm hc hg h1 h; have hq := R.q2; have e : ∀ k, Jv p m c (gel p m c gs) (pw (Jv p m c) (gel p m c gs) k) = pw (Jv p m c) (gel p m c gs) (k + 1) := fun k => R.Mc hg (R.pw_lt _ k); refine ⟨hg, ?_, fun k h0 hk => ?_⟩
 .rw [show p ^ m - 1 = (p ^ m - 2) + 1 by omega, <- e]; exact h3
 .rw [show k = (k - 1) + 1 by omega, <- e]; exact h2 (k - 1) (by omega)
theorem Jvr (f : Nat -> Bool) (n : Nat) : nob f (n + 1) = bif f n then false else nob f n := rfl
theorem Jac (f : Nat -> Bool) : ∀ n, nob f n = true ↔ ∀ i, i < n -> f i = false
 | 0 => ⟨fun _ i h => by omega, fun _ => rfl⟩
 | n + 1 => by
  rw [Jvr]; cases h : f n with
  | true =>
   refine ⟨fun h' => ?_, fun h' => ?_⟩
   .cases h'
   .rw [h' n (by omega)] at h; cases h
  | false =>
   show nob f n = true ↔ _; rw [Jac f n]; refine ⟨fun h' i hi => ?_, fun h' i hi => h' i (by omega)⟩; rcases Nat.lt_or_ge i n with h1 | h1
   .exact h' i h1
   .rw [show i = n by omega]; exact h
theorem Jra (f : Nat -> Bool) (n : Nat) (h : nob f n = false) : ∃ i, i < n /\ f i = true := by
 have hn : ¬ ∀ i, i < n -> f i = false := fun h' => by rw [(Jac f n).2 h'] at h; cases h
 have := Classical.not_forall.1 hn; obtain ⟨i, hi⟩ := this; have h2 := Classical.not_imp.1 hi; exact ⟨i, h2.1, by cases hf : f i with | true => rfl | false => exact absurd hf h2.2⟩
theorem Jpm {p m : Nat} {cs : List Nat} {c : Vec} (hp : 2 <= p) (hm : 0 < m) (hc : Rep p m cs c) (h : Jmd p m cs = true) : ∃ g, Gn (p ^ m) (Jv p m c) g := by
 unfold Jmd at h; obtain ⟨i, _, hi⟩ := Jra _ _ (by simpa using h); exact ⟨_, Jy3 hp hm hc hi⟩
def rst (p d i : Nat) (l R : Vec) : Vec := fun j => if i <= j + d /\ j < i then (R j - l (j + d - i) * R i) % (p : Int) else R j
def rem (p d : Nat) (l R : Vec) (n : Nat) : Nat -> Vec
  | 0 => R
  | k + 1 => rst p d (n - 1 - k) l (rem p d l R n k)
def Dvd (p d : Nat) (l R : Vec) (n : Nat) : Prop := ∀ j, j < d -> rem p d l R n (n - d) j = 0
def Irr (p m : Nat) (c : Vec) : Prop := ∀ d, 0 < d -> 2 * d <= m -> ∀ w, w < p ^ d -> ¬ Dvd p d (dv p w) (fun i => if i = m then 1 else c i) (m + 1)
theorem Jch (p c a : Nat) (al bs : List Nat) : Ji2 p c (a :: al) bs = ((hd0 bs + (p - a) * c) % p) :: Ji2 p c al (tl0 bs) := rfl
theorem Ji1 (p c : Nat) : ∀ al bs : List Nat, al.length <= bs.length -> (Ji2 p c al bs).length = bs.length
 | [], _, _ => rfl
 | a :: al, [], h => by simp at h
 | a :: al, b :: bs, h => by
  rw [Jch, List.length_cons]; show (Ji2 p c al bs).length + 1 = _; rw [Ji1 p c al bs (by simpa using h)]; rfl
theorem Jox (p c : Nat) : ∀ (al bs : List Nat) (t : Nat), (Ji2 p c al bs).getD t 0 = if t < al.length then (bs.getD t 0 + (p - al.getD t 0) * c) % p else bs.getD t 0
 | [], bs, t => by simp; rfl
 | a :: al, bs, 0 => by rw [Jch, Jhn]; simp
 | a :: al, bs, t + 1 => by
  rw [Jch]; show (Ji2 p c al (tl0 bs)).getD t 0 = _; rw [Jox p c al (tl0 bs) t, Jee]; simp
theorem Jwa (p : Nat) (low : List Nat) (k : Nat) (r : List Nat) : dvg p low (k + 1) r = dvg p low k (Ji2 p (hd0 r) low (tl0 r)) := rfl
theorem Jwb {p d n : Nat} {l R : Vec} {low : List Nat} (hp : 0 < p) (hl : low.length = d) (hlow : ∀ t, t < d -> ((low.getD t 0 : Nat) : Int) = l (d - 1 - t)) (hlp : ∀ t, t < d -> low.getD t 0 <= p) : ∀ (s k : Nat) (r : List Nat), s + k + d = n -> r.length = n - k ->
  (∀ t, t < n - k -> ((r.getD t 0 : Nat) : Int) = rem p d l R n k (n - 1 - k - t)) -> (dvg p low s r = true ↔ Dvd p d l R n)
 | 0, k, r, hs, hr, hv => by
  have : n - k = d := by omega
  rw [this] at hr hv; show az r = true ↔ _; rw [Jhy, hr]; have hk : n - d = k := by omega
  unfold Dvd; rw [hk]; constructor
  .intro h j hj; have := hv (d - 1 - j) (by omega); rw [h (d - 1 - j) (by omega), show n - 1 - k - (d - 1 - j) = j by omega] at this; exact this.symm
  .intro h t ht; have := hv t ht; rw [h (n - 1 - k - t) (by omega)] at this; exact Int.ofNat_eq_zero.1 this
 | s + 1, k, r, hs, hr, hv => by
  rw [Jwa]; have htl : (tl0 r).length = n - (k + 1) := by rw [Jx1, hr]; omega
  refine Jwb hp hl hlow hlp s (k + 1) _ (by omega) (by rw [Ji1 _ _ _ _ (by rw [htl, hl]; omega), htl]) fun t ht => ?_; rw [Jox, hl, Jee, Jhn]; have h0 := hv 0 (by omega); rw [Nat.sub_zero] at h0; have h1 := hv (t + 1) (by omega); rw [show n - 1 - k - (t + 1) = n - 1 - (k + 1) - t by omega] at h1; show _ = rst p d (n - 1 - k) l (rem p d l R n k) (n - 1 - (k + 1) - t); unfold rst; by_cases htd : t < d
  .rw [if_pos htd, if_pos (by omega)]; have h2 := hlow t htd; have h3 := hlp t htd; rw [show n - 1 - (k + 1) - t + d - (n - 1 - k) = d - 1 - t by omega, <- h0, <- h1, <- h2]; generalize r.getD (t + 1) 0 = X at *
   generalize low.getD t 0 = Y at *
   generalize r.getD 0 0 = Z at *
   obtain ⟨D, hD⟩ : ∃ D, p = Y + D := ⟨p - Y, by omega⟩
   rw [show p - Y = D by omega, Int.natCast_emod]; have hcast : ((X + D * Z : Nat) : Int) = ((X : Int) - Y * Z) + p * Z := by
    have : (p : Int) = Y + D := by omega
    rw [this]; push_cast; rw [Int.add_mul]; omega
   rw [hcast, Int.add_mul_emod_self_left]
  .rw [if_neg htd, if_neg (by omega)]; exact h1
theorem Jey (l : List Nat) (t : Nat) (h : t < l.length) : l.reverse.getD t 0 = l.getD (l.length - 1 - t) 0 := by
 rw [List.getD_eq_getElem?_getD, List.getD_eq_getElem?_getD, List.getElem?_reverse h]
theorem Je3 {p : Nat} (hp : 0 < p) (x i : Nat) : 0 <= dv p x i /\ dv p x i < p := Jf8 hp x (i + 1) i (by omega)
theorem Jvw {p m v : Nat} (hp : 0 < p) (hv : v < p ^ m) : irrB p m (dgl p m v) = true ↔ Irr p m (dv p v) := by
 have key : ∀ d w, 0 < d -> 2 * d <= m -> (dvg p (dgl p d w).reverse (m + 1 - d) (1 :: (dgl p m v).reverse) = true ↔ Dvd p d (dv p w) (fun i => if i = m then 1 else dv p v i) (m + 1)) := fun d w hd h2 => by
  refine Jwb hp (by rw [List.length_reverse, QZ]) (fun t ht => ?_) (fun t ht => ?_) (m + 1 - d) 0 _ (by omega) (by simp [QZ]) fun t ht => ?_
  .rw [Jey _ _ (by rw [QZ]; exact ht), QZ, Jcz _ _ _ _ (by omega)]
  .rw [Jey _ _ (by rw [QZ]; exact ht), QZ]; have := Jcz p d w (d - 1 - t) (by omega); have := Je3 hp w (d - 1 - t); omega
  .show _ = if m + 1 - 1 - 0 - t = m then (1 : Int) else dv p v (m + 1 - 1 - 0 - t)
   cases t with
   | zero => rw [if_pos (by omega)]; rfl
   | succ t =>
    rw [if_neg (by omega)]; show (((dgl p m v).reverse.getD t 0 : Nat) : Int) = _; rw [Jey _ _ (by rw [QZ]; omega), QZ, Jcz _ _ _ _ (by omega), show m + 1 - 1 - 0 - (t + 1) = m - 1 - t by omega]
 unfold irrB; rw [Jac]; constructor
 .intro h d hd h2 w hw hD; have h3 := h (d - 1) (by omega); have h4 := (Jac _ _).1 (by simpa using h3) w (by rw [show d - 1 + 1 = d by omega]; exact hw); rw [show d - 1 + 1 = d by omega, show m - (d - 1) = m + 1 - d by omega, (key d w hd h2).2 hD] at h4; cases h4
 .intro h d hd; have : nob (fun w => dvg p (dgl p (d + 1) w).reverse (m - d) (1 :: (dgl p m v).reverse)) (p ^ (d + 1)) = true := (Jac _ _).2 fun w hw => by
   cases hb : dvg p (dgl p (d + 1) w).reverse (m - d) (1 :: (dgl p m v).reverse) with
   | false => rfl
   | true =>
    rw [show m - d = m + 1 - (d + 1) by omega] at hb; exact absurd ((key (d + 1) w (by omega) (by omega)).1 hb) (h (d + 1) (by omega) (by omega) w hw)
  rw [this]; rfl
theorem JR {p m lo n v : Nat} (hp : 2 <= p) (hm : 0 < m) (h : chk p m lo n = true) (h1 : lo <= v) (h2 : v < lo + n) (hv : v < p ^ m) (hi : Irr p m (dv p v)) : ∃ g, Gn (p ^ m) (Jv p m (dv p v)) g := by
 have h3 := (Jac _ _).1 h (v - lo) (by omega); simp only [show lo + (v - lo) = v by omega, (Jvw (by omega) hv).2 hi, cond_true] at h3; exact Jpm hp hm Jxr (by simpa using h3)
end Go.Proofs.YtjgpkljepgcekaaGreat
