/- Contracts of functions of the program, and what they lean on: D30, D32, D35, D34, D36, Xq, Cd, D33, D37, Dt, Fa, Fb, Fg, Fp, Fk, Fc. -/
import Derived.Test.YtjgpkljepgcekaaGreatClassicRepetitionG6
import Derived.Lib.AppendZeros
set_option linter.unusedSimpArgs false
set_option linter.unusedVariables false
set_option maxRecDepth 4000
set_option maxHeartbeats 4000000
namespace Go.Proofs.YtjgpkljepgcekaaGreat
open Go.RowKit
def YF (n : Int) (Q : Bool -> Prop) : Prop :=
  (((1 : Int) <= n) -> (Q (decide (n <= 64)))) /\ (¬ ((1 : Int) <= n) -> Q false)
theorem Jdd {w : World} {Q : Bool -> Prop} {n : Int}  (hv : YF n Q) :
   Calls Tryz.prog 58 #[.int .i64 n] w <| Rt w fun v Qr => ∃ (r0 : Bool), v = .bool r0 /\ Qr = [] /\ Q r0 := by
 refine Jh <| Ji (vs := [nI n]) [2] XF58 rfl rfl rfl rfl ?_; have hS := Jp w; unfold YF at hv; refine Jc 8 <| Jo rfl rfl ?_; by_cases g11 : (1 : Int) <= n
 .have hv := hv.1 g11; rw [decide_eq_true g11]; refine Jb 7 <| W.ret <| ⟨_, rfl, Fin.nil ?_⟩
  exact (hS.pick [] rfl).fin rfl ⟨(decide (n <= 64)), rfl, rfl, hv⟩
 have hv := hv.2 g11; rw [decide_eq_false g11]; refine Jb 5 <| W.ret <| ⟨_, rfl, Fin.nil ?_⟩
 exact (hS.pick [] rfl).fin rfl ⟨false, rfl, rfl, hv⟩
def Jdh (Pc : Int) (Mc : Int) (mc : LI) (Nc : Int) (c : LL) (Q : Unit -> Prop) : Prop :=
  Q ()
theorem Jbt {w : World} {Q : Unit -> Prop} {Pc : Int} {Mc : Int} {mc : LI} {Nc : Int} {c : LL} {Bcf : Nat} {Acf : Option Addr} {ncf kcf : Nat} (hcf : Rd Bcf w 1 Acf ncf kcf (is mc)) {Ac : Option Addr} {nc kc : Nat} (hc : Rl w Ac nc kc c) (hv : Jdh Pc Mc mc Nc c Q) :
  Calls Tryz.prog 33 #[.agg #[.int .i64 Pc, .int .i64 Mc, .slice Acf ncf kcf, .int .i64 Nc, .slice Ac nc kc]] w <| Rt w fun v Qr => v = .agg #[.int .i64 Nc, .slice Ac c.length kc] /\ Qr = [] /\ Q () := by
 have hncf := hcf.ilen; subst hncf; have hnc := hc.len; subst hnc; obtain ⟨hsc, hHc⟩ := hc.heads; refine Jh <| JZ (vs := [.agg #[nI Pc, nI Mc, nS Acf mc kcf, nI Nc, nS Ac c kc]]) [.cell 2 52] XF33 rfl rfl rfl rfl ?_; have hS := Jp w; unfold Jdh at hv; refine Jc 2 <| JA (z := 5) (cs := [nI Pc, nI Mc, nS Acf mc kcf, nI Nc, nS Ac c kc]) hS rfl rfl rfl rfl ?_; intro g11 w12 hS; refine SL.alloc (cs := [nI 0, .slice none 0 0]) hS JW rfl rfl ?_; intro g13 w14 hS; refine Ja <| Jc 2 <| Jd (off := 3) Zv rfl rfl <| Jm 1 3 XU3 hS rfl rfl rfl ⟨rfl, rfl⟩ <| Jd (off := 4) Jfc rfl rfl <| Jm 1 4 Jv hS rfl rfl rfl ⟨rfl, rfl⟩ <| JT (cells := #[nI Nc, nS Ac c kc]) Jh3 rfl rfl rfl <| Jr (cs := [nI Nc, nS Ac c kc]) 0 hS rfl JW rfl rfl rfl rfl rfl ?_; intro w15 hS; refine Ja <| W.ret ?_
 repeat with_reducible first | refine blk.ret ?_ | refine exits.retI ?_
 refine endC.mk ⟨[.agg #[nI Nc, nS Ac c kc]], ⟨_, _, _, rfl, rfl, JD (cs := [nI Nc, nS Ac c kc]) JW QK rfl (Ju (hS.own (i := 0) rfl)), rfl⟩, ?_⟩; exact (hS.pick [] rfl).fin rfl ⟨rfl, rfl, hv⟩
def Jci (Pc : Int) (Mc : Int) (mc : LI) (Nc : Int) (c : LL) (Q : Int -> Prop) : Prop :=
  Jal Pc Mc mc (fun r14 => ((r14 ≠ 0) -> Q r14) /\ (¬ (r14 ≠ 0) -> (YF Nc (fun r17 => (((!r17) = true) -> (Q 4)) /\ ((!r17) = false -> (∃ (r25 : Int), Jb7 Pc Mc mc Nc c (fun q => q = r25) /\ Q r25))))))
theorem Jp7 {w : World} {Q : Int -> Prop} {Pc : Int} {Mc : Int} {mc : LI} {Nc : Int} {c : LL} {Bcf : Nat} {Acf : Option Addr} {ncf kcf : Nat} (hcf : Rd Bcf w 1 Acf ncf kcf (is mc)) {Ac : Option Addr} {nc kc : Nat} (hc : Rl w Ac nc kc c) (hv : Jci Pc Mc mc Nc c Q) :
   Calls Tryz.prog 31 #[.agg #[.int .i64 Pc, .int .i64 Mc, .slice Acf ncf kcf, .int .i64 Nc, .slice Ac nc kc]] w <| Rt w fun v Qr => ∃ (r0 : Int), v = .int .i64 r0 /\ Qr = [] /\ Q r0 := by
 have hncf := hcf.ilen; subst hncf; have hnc := hc.len; subst hnc; obtain ⟨hsc, hHc⟩ := hc.heads; refine Jh <| Ji (vs := [.agg #[nI Pc, nI Mc, nS Acf mc kcf, nI Nc, nS Ac c kc]]) [2] XF31 rfl rfl rfl rfl ?_; have hS := Jp w; unfold Jci at hv; refine Jc 2 <| JA (z := 5) (cs := [nI Pc, nI Mc, nS Acf mc kcf, nI Nc, nS Ac c kc]) hS rfl rfl rfl rfl ?_; intro g11 w12 hS; refine Jb 2 <| Jc 3 <| Jd (off := 0) YW rfl rfl <| Qq (cs := [nI Pc, nI Mc, nS Acf mc kcf]) JS JU rfl rfl (YY (hS.rd (i := 0) rfl) 0 rfl) rfl <| SL.call hS (Jer (hS.ro hcf) hv) XF26 rfl XN26 rfl rfl ?_; rintro _ _ w13 ⟨r14, rfl, rfl, hv⟩ hGw13 hS; have hS := hS.n0; refine Jb 2 <| Jc 5 <| Jg rfl (fun c15 => ?_) (fun c15 => ?_)
 .have hv := hv.1 (oT c15); refine Jc 5 <| W.ret <| ⟨_, rfl, Fin.nil ?_⟩
  exact (hS.pick [] rfl).fin rfl ⟨r14, rfl, rfl, hv⟩
 have hv := hv.2 (oF c15); refine Jl <| Jc 3 <| Jd (off := 3) Zv rfl rfl <| Jm 0 3 XU3 hS rfl rfl rfl ⟨rfl, rfl⟩ <| SL.call hS (Jdd  hv) XF58 rfl XN58 rfl rfl ?_; rintro _ _ w16 ⟨r17, rfl, rfl, hv⟩ hGw16 hS; have hS := hS.n0; refine Jb 2 <| Jg rfl (fun c18 => ?_) (fun c18 => ?_)
 .have hv := hv.1 (c18); refine Jc 4 <| W.ret <| ⟨_, rfl, Fin.nil ?_⟩
  exact (hS.pick [] rfl).fin rfl ⟨(4 : Int), rfl, rfl, hv⟩
 have hv := hv.2 (c18); refine Jl <| Jz ?_; obtain ⟨r25, o27, hv⟩ := hv; refine JP 6 [⟨[], [1], true⟩, ⟨[0], [], false⟩, ⟨[], [1], false⟩, ⟨[2], [], false⟩, ⟨[1, 3], [], false⟩, ⟨[4], [], true⟩] [(14, nP g11), (15, .agg #[nI Pc, nI Mc, nS Acf mc kcf]), (16, .agg #[nI Pc, nI Mc, nS Acf mc kcf, nI Nc, nS Ac c kc]), (17, .agg #[nI Nc, nS Ac c kc]), (18, nI r25), (2, nI r25)] Jq (by kernel_rfl) rfl rfl ?_ ?_
 . refine ⟨fun _ _ _ => Jd (off := 0) YW rfl rfl <| Ja ⟨rfl, rfl⟩, og hS fun _ _ hS => Qq (cs := [nI Pc, nI Mc, nS Acf mc kcf]) JS JU rfl rfl (YY (hS.rd (i := 0) rfl) 0 rfl) rfl <| Ja ⟨rfl, Je _⟩, og hS fun _ _ hS => JB 0 JQ Qy hS rfl ⟨rfl, rfl⟩ rfl <| Ja ⟨rfl, Je _⟩, ?_, ?_, oD, trivial⟩
   .intro w22 hE RR; have hS := hS.grow (hE rfl); refine WL.call XF33 rfl XN33 rfl rfl (JM (Jbt (Q := fun _ => True) (hS.ro hcf) (RlH.rl (RlH.ext hHc hS.ext)) trivial)) ?_; rintro _ w23 ⟨_, hGw23, hRww23, hNww23, rfl, rfl, _⟩; exact Ja ⟨rfl, hGw23⟩
   intro w24 hE RR; have hS := hS.grow (hE rfl); refine WL.call XF65 rfl XN65 rfl rfl (JM (Jpx (hS.ro hcf) (RlH.rl (RlH.ext hHc hS.ext)) o27)) ?_; rintro _ w26 ⟨_, hGw26, hRww26, hNww26, r25q, rfl, rfl, he⟩; subst he; exact Ja ⟨rfl, hGw26⟩
 intro w29 hT; have hS := hS.grow hT; refine JJ <| W.ret <| ⟨_, rfl, Fin.nil ?_⟩
 exact (hS.pick [] rfl).fin rfl ⟨r25, rfl, rfl, hv⟩
def Jbc (Pf : Int) (Mf : Int) (mf : LI) (Cm : Int) (m : LL) (e : Int) (Q : Option LI × Int -> Prop) : Prop :=
  ((e ≠ 0) -> (Q (none, e))) /\ (¬ (e ≠ 0) -> (YM mf (fun x20 => Q (some x20, (0 : Int)))))
theorem Jha {w : World} {Q : Option LI × Int -> Prop} {Pf : Int} {Mf : Int} {mf : LI} {Cm : Int} {m : LL} {e : Int} {Bf : Nat} {Af : Option Addr} {nf kf : Nat} (hf : Rd Bf w 1 Af nf kf (is mf)) {Am : Option Addr} {nm km : Nat} (hm : Rl w Am nm km m) (hv : Jbc Pf Mf mf Cm m e Q) :
   Calls Tryz.prog 34 #[.agg #[.int .i64 Pf, .int .i64 Mf, .slice Af nf kf], .agg #[.int .i64 Cm, .slice Am nm km], .int .i64 e] w <| Rt w fun v Qr => ∃ (o : Option LI) (e2 : Int), Q (o, e2) /\ match o with | none => v = .tuple #[.agg #[.int .i64 0, .int .i64 0, .slice none 0 0, .int .i64 0, .slice none 0 0], .int .i64 e2] /\ Qr = [] | some x => ∃ (A : Option Addr) (c : Nat), v = .tuple #[.agg #[.int .i64 Pf, .int .i64 Mf, .slice A x.length c, .int .i64 Cm, .slice Am m.length km], .int .i64 0] /\ Qr = [.row 3 1 A x.length c (is x)] /\ e2 = 0 := by
 have hnf := hf.ilen; subst hnf; have hnm := hm.len; subst hnm; obtain ⟨hsm, hHm⟩ := hm.heads; refine Jh <| JZ (vs := [.agg #[nI Pf, nI Mf, nS Af mf kf], .agg #[nI Cm, nS Am m km], nI e]) [.cell 6 27, .tmp 7] XF34 rfl rfl rfl rfl ?_; have hS := Jp w; unfold Jbc at hv; refine Jc 2 <| JA (z := 3) (cs := [nI Pf, nI Mf, nS Af mf kf]) hS rfl rfl rfl rfl ?_; intro g11 w12 hS; refine JA (z := 2) (cs := [nI Cm, nS Am m km]) hS rfl rfl rfl rfl ?_; intro g13 w14 hS; refine SL.alloc (cs := [nI 0, nI 0, .slice none 0 0, nI 0, .slice none 0 0]) hS JQ rfl rfl ?_; intro g15 w16 hS; refine Jb 2 <| Jc 6 <| Jg rfl (fun c17 => ?_) (fun c17 => ?_)
 .have hv := hv.1 (oT c17); refine Jc 2 <| JT (cells := #[nI 0, nI 0, .slice none 0 0, nI 0, .slice none 0 0]) Jc5 rfl rfl rfl <| Jo rfl rfl <| Jr (cs := [nI 0, nI 0, .slice none 0 0, nI 0, .slice none 0 0]) 0 hS rfl JQ rfl rfl rfl rfl rfl ?_; intro w18 hS; refine Jb 2 <| W.ret ?_
  repeat with_reducible first | refine blk.ret ?_ | refine exits.retI ?_
  refine endC.mk ⟨[.agg #[nI 0, nI 0, .slice none 0 0, nI 0, .slice none 0 0], nI e], ⟨_, _, _, rfl, rfl, JD (cs := [nI 0, nI 0, .slice none 0 0, nI 0, .slice none 0 0]) JQ Qy rfl (Ju (hS.own (i := 0) rfl)), ⟨_, _, rfl, rfl, rfl⟩⟩, ?_⟩; exact (hS.pick [] rfl).fin rfl ⟨none, e, hv, rfl, rfl⟩
 have hv := hv.2 (oF c17); refine Jl <| Jc 2 <| Jd (off := 2) Qm rfl rfl <| Jm 2 2 Jn hS rfl rfl rfl ⟨rfl, rfl⟩ <| SL.call hS (ZO (hS.ro hf) hv) Jq2 rfl XN70 rfl rfl ?_; rintro _ _ w19 ⟨x20, A21, k22, rfl, rfl, hv⟩ hGw19 hS; have hS := hS.n1; refine Jd (off := 2) Qm rfl rfl <| Jw (cs' := [nI Pf, nI Mf, nS A21 x20 k22]) 3 2 hS rfl Jt rfl rfl rfl (Qf rfl) rfl ?_; intro w24 hS; refine Ja <| Jc 2 <| JB 3 JS JU hS rfl ⟨rfl, rfl⟩ rfl <| Jd (off := 0) QO rfl rfl <| Jm 2 0 XU3 hS rfl rfl rfl ⟨rfl, rfl⟩ <| Jd (off := 1) J6 rfl rfl <| Jm 2 1 Jv hS rfl rfl rfl ⟨rfl, rfl⟩ <| JT (cells := #[nI Pf, nI Mf, nS A21 x20 k22, nI Cm, nS Am m km]) Jc5 rfl rfl rfl <| Jr (cs := [nI Pf, nI Mf, nS A21 x20 k22, nI Cm, nS Am m km]) 1 hS rfl JQ rfl rfl rfl rfl rfl ?_; intro w25 hS; refine Jb 2 <| W.ret ?_
 repeat with_reducible first | refine blk.ret ?_ | refine exits.retI ?_
 refine endC.mk ⟨[.agg #[nI Pf, nI Mf, nS A21 x20 k22, nI Cm, nS Am m km], nI 0], ⟨_, _, _, rfl, rfl, JD (cs := [nI Pf, nI Mf, nS A21 x20 k22, nI Cm, nS Am m km]) JQ Qy rfl (Ju (hS.own (i := 1) rfl)), ⟨_, _, rfl, rfl, rfl⟩⟩, ?_⟩; exact (hS.pick [0] rfl).fin rfl ⟨some x20, 0, hv, A21, k22, rfl, rfl, rfl⟩
def Jh9 (Pf : Int) (Mf : Int) (mf : LI) (Cm : Int) (m : LL) (Q : Int × Int × LI × Int × LL × Int -> Prop) : Prop :=
  YN Pf Mf mf Cm m (fun (c18, x19, x20, r21) => ((r21 = 0) -> (YF Cm (fun r34 => ∃ J36 : Int -> Prop, ((((!r34) = true) -> (J36 4)) /\ ((!r34) = false -> J36 r21)) /\ ∀ (z35 : Int), (J36 z35 -> (Jbc Pf Mf mf c18 x19 z35 (fun q => match q with | (none, r41) => (Q ((0 : Int), (0 : Int), ([] : LI), (0 : Int), ([] : LL), r41)) | (some x42, _) => Q (Pf, Mf, x42, c18, x19, (0 : Int)))))))) /\ (¬ (r21 = 0) -> (Jbc Pf Mf mf c18 x19 r21 (fun q => match q with | (none, r52) => (Q ((0 : Int), (0 : Int), ([] : LI), (0 : Int), ([] : LL), r52)) | (some x53, _) => Q (Pf, Mf, x53, c18, x19, (0 : Int))))))
theorem Jw3 {w : World} {Q : Int × Int × LI × Int × LL × Int -> Prop} {Pf : Int} {Mf : Int} {mf : LI} {Cm : Int} {m : LL} {Bf : Nat} {Af : Option Addr} {nf kf : Nat} (hf : Rd Bf w 1 Af nf kf (is mf)) {Am : Option Addr} {nm km : Nat} (hm : Rl w Am nm km m) (hv : Jh9 Pf Mf mf Cm m Q) :
   Calls Tryz.prog 27 #[.agg #[.int .i64 Pf, .int .i64 Mf, .slice Af nf kf], .agg #[.int .i64 Cm, .slice Am nm km]] w <| Rt w fun v Qr => ∃ (p0 : Int) (m0 : Int) (f0 : LI) (c0 : Int) (r0 : LL) (r1 : Int) (A0f : Option Addr) (k0f : Nat) (A0 : Option Addr) (k0 : Nat) (hs0 : Hs), v = .tuple #[.agg #[.int .i64 p0, .int .i64 m0, .slice A0f f0.length k0f, .int .i64 c0, .slice A0 r0.length k0], .int .i64 r1] /\ Qr = [.row 3 1 A0f f0.length k0f (is f0), mx 22 3 A0 r0.length k0 hs0 r0] /\ Q (p0, m0, f0, c0, r0, r1) := by
 have hnf := hf.ilen; subst hnf; have hnm := hm.len; subst hnm; obtain ⟨hsm, hHm⟩ := hm.heads; refine Jh <| JZ (vs := [.agg #[nI Pf, nI Mf, nS Af mf kf], .agg #[nI Cm, nS Am m km]]) [.cell 4 27, .tmp 5] XF27 rfl rfl rfl rfl ?_; have hS := Jp w; unfold Jh9 at hv; refine Jc 2 <| JA (z := 3) (cs := [nI Pf, nI Mf, nS Af mf kf]) hS rfl rfl rfl rfl ?_; intro g11 w12 hS; refine JA (z := 2) (cs := [nI Cm, nS Am m km]) hS rfl rfl rfl rfl ?_; intro g13 w14 hS; refine SL.alloc (cs := [nI 0, nI 0, .slice none 0 0, nI 0, .slice none 0 0]) hS JQ rfl rfl ?_; intro g15 w16 hS; refine Jb 2 <| Jc 2 <| JB 2 JS JU hS rfl ⟨rfl, rfl⟩ rfl <| JB 1 JW QK hS rfl ⟨rfl, rfl⟩ rfl <| SL.call hS (Jhf (hS.ro hf) (RlH.rl (RlH.ext hHm hS.ext)) hv) XF57 rfl XN57 rfl rfl ?_; rintro _ _ w17 ⟨c18, x19, x20, r21, A22, k23, hs24, A26, k27, rfl, rfl, hv⟩ hGw17 hS; have hS := hS.n2; refine Jb 4 <| SL.alloc (cs := [nI 0, .slice none 0 0]) hS JW rfl rfl ?_; intro g29 w30 hS; refine Jr (cs := [nI c18, nS A22 x19 k23]) 0 hS rfl JW rfl rfl rfl rfl rfl ?_; intro w31 hS; refine Jb 3 <| Jc 5 <| Jo rfl rfl ?_; by_cases g32 : r21 = 0
 .have hv := hv.1 g32; rw [decide_eq_true g32]; refine WL.take rfl <| Jd (off := 0) QO rfl rfl <| WL.take rfl <| Jm 4 0 XU3 hS rfl rfl rfl ⟨rfl, rfl⟩ <| WL.take rfl <| SL.call hS (Jdd  hv) XF58 rfl XN58 rfl rfl ?_; rintro _ _ w33 ⟨r34, rfl, rfl, hv⟩ hGw33 hS; have hS := hS.n0; refine Jb 4 ?_; obtain ⟨J36, hv, hk49⟩ := hv; refine Qg (σ := Int) (fun z35 w1 => J36 z35 /\ St TT w none w1 [.row 52 2 (nA g29) 1 1 [nI c18, nS A22 x19 k23], mx 22 3 A22 x19.length k23 hs24 x19, nR 3 A26 x20 k27, .row 27 5 (nA g15) 1 1 [nI 0, nI 0, .slice none 0 0, nI 0, .slice none 0 0], .row 52 2 (nA g13) 1 1 [nI Cm, nS Am m km], .row 24 3 (nA g11) 1 1 [nI Pf, nI Mf, nS Af mf kf]]) (fun z35 => [(2, nP g11), (4, nP g15), (5, nI 0), (6, nP g29), (8, nI z35)]) ?_ ?_
  .refine Jg rfl (fun c37 => ?_) (fun c37 => ?_)
   .have hv := hv.1 (c37); refine Jc 3 ?_; exact ⟨(4 : Int), sp rfl, rfl, hv, hS⟩
   have hv := hv.2 (c37); refine Jl ?_; exact ⟨r21, sp rfl, rfl, hv, hS⟩
  rintro z35 w38 ⟨hv, hS⟩; have hv := hk49 z35 hv; refine Jc 2 <| JB 5 JS JU hS rfl ⟨rfl, rfl⟩ rfl <| JB 0 JW QK hS rfl ⟨rfl, rfl⟩ rfl <| Jo rfl rfl <| SL.call hS (Jha (hS.ro hf) (hS.rl (i := 1) rfl) hv) XF34 rfl XN34 rfl rfl ?_; rintro _ _ w40 ⟨o, r41, hv, hK⟩ hGw40 hS; cases o with
  | none =>
   obtain ⟨rfl, rfl⟩ := hK; have hS := hS.n0; refine Jb 2 <| Jr (cs := [nI 0, nI 0, .slice none 0 0, nI 0, .slice none 0 0]) 3 hS rfl JQ rfl rfl rfl rfl rfl ?_; intro w46 hS; refine Jb 2 <| W.ret ?_; have hS := hS.nil (e := 3) (z := 1); have hS := hS.mxNil 22 3; have hm4 := hS.mxlen (i := 0) rfl; have hS := hS.relenMx (i := 0) rfl hm4.symm
   change St _ _ _ _ [_, _, _, _, _, _, _, _] at hS
   repeat with_reducible first | refine blk.ret ?_ | refine exits.retI ?_
   refine endC.mk ⟨[.agg #[nI 0, nI 0, .slice none 0 0, nI 0, .slice none 0 0], nI r41], ⟨_, _, _, rfl, rfl, JD (cs := [nI 0, nI 0, .slice none 0 0, nI 0, .slice none 0 0]) JQ Qy rfl (Ju (hS.own (i := 5) rfl)), ⟨_, _, rfl, rfl, rfl⟩⟩, ?_⟩; exact ⟨_, hS.ext, (hS.pick [1, 0] rfl).rows, J3 (hS.pick [1, 0] rfl).rows rfl, ⟨(0 : Int), (0 : Int), ([] : LI), (0 : Int), ([] : LL), r41, none, 0, none, 0, (fun _ => (none, 0)), (by (try unfold nS); first | (rw [show (Value.slice none 0 0) = Value.slice none (([] : LL)).length 0 from sm0 hm4.symm]; done) | (rw [show (Value.slice none 0 0) = Value.slice none (([] : LL)).length 0 from sm0 hm4.symm]; rfl)), rfl, hv⟩⟩
  | some x42 =>
   obtain ⟨A43, k44, rfl, rfl, rfl⟩ := hK; have hS := hS.n1; refine Jb 2 <| Jr (cs := [nI Pf, nI Mf, nS A43 x42 k44, nI c18, nS A22 x19 k23]) 4 hS rfl JQ rfl rfl rfl rfl rfl ?_; intro w48 hS; refine Jb 2 <| W.ret ?_; have hS := hS.pick [2, 0, 1, 3, 4, 5, 6] rfl
   change St _ _ _ _ [_, _, _, _, _, _, _] at hS
   repeat with_reducible first | refine blk.ret ?_ | refine exits.retI ?_
   refine endC.mk ⟨[.agg #[nI Pf, nI Mf, nS A43 x42 k44, nI c18, nS A22 x19 k23], nI 0], ⟨_, _, _, rfl, rfl, JD (cs := [nI Pf, nI Mf, nS A43 x42 k44, nI c18, nS A22 x19 k23]) JQ Qy rfl (Ju (hS.own (i := 4) rfl)), ⟨_, _, rfl, rfl, rfl⟩⟩, ?_⟩; exact (hS.pick [1, 0] rfl).fin rfl ⟨Pf, Mf, x42, c18, x19, (0 : Int), A43, k44, A22, k23, hs24, rfl, rfl, hv⟩
 have hv := hv.2 g32; rw [decide_eq_false g32]; refine Jb 6 <| QL rfl <| Jl <| Jc 2 <| JB 5 JS JU hS rfl ⟨rfl, rfl⟩ rfl <| JB 0 JW QK hS rfl ⟨rfl, rfl⟩ rfl <| Jo rfl rfl <| SL.call hS (Jha (hS.ro hf) (hS.rl (i := 1) rfl) hv) XF34 rfl XN34 rfl rfl ?_; rintro _ _ w51 ⟨o, r52, hv, hK⟩ hGw51 hS; cases o with
 | none =>
  obtain ⟨rfl, rfl⟩ := hK; have hS := hS.n0; refine Jb 2 <| Jr (cs := [nI 0, nI 0, .slice none 0 0, nI 0, .slice none 0 0]) 3 hS rfl JQ rfl rfl rfl rfl rfl ?_; intro w57 hS; refine Jb 2 <| W.ret ?_; have hS := hS.nil (e := 3) (z := 1); have hS := hS.mxNil 22 3; have hm4 := hS.mxlen (i := 0) rfl; have hS := hS.relenMx (i := 0) rfl hm4.symm
  change St _ _ _ _ [_, _, _, _, _, _, _, _] at hS
  repeat with_reducible first | refine blk.ret ?_ | refine exits.retI ?_
  refine endC.mk ⟨[.agg #[nI 0, nI 0, .slice none 0 0, nI 0, .slice none 0 0], nI r52], ⟨_, _, _, rfl, rfl, JD (cs := [nI 0, nI 0, .slice none 0 0, nI 0, .slice none 0 0]) JQ Qy rfl (Ju (hS.own (i := 5) rfl)), ⟨_, _, rfl, rfl, rfl⟩⟩, ?_⟩; exact ⟨_, hS.ext, (hS.pick [1, 0] rfl).rows, J3 (hS.pick [1, 0] rfl).rows rfl, ⟨(0 : Int), (0 : Int), ([] : LI), (0 : Int), ([] : LL), r52, none, 0, none, 0, (fun _ => (none, 0)), (by (try unfold nS); first | (rw [show (Value.slice none 0 0) = Value.slice none (([] : LL)).length 0 from sm0 hm4.symm]; done) | (rw [show (Value.slice none 0 0) = Value.slice none (([] : LL)).length 0 from sm0 hm4.symm]; rfl)), rfl, hv⟩⟩
 | some x53 =>
  obtain ⟨A54, k55, rfl, rfl, rfl⟩ := hK; have hS := hS.n1; refine Jb 2 <| Jr (cs := [nI Pf, nI Mf, nS A54 x53 k55, nI c18, nS A22 x19 k23]) 4 hS rfl JQ rfl rfl rfl rfl rfl ?_; intro w59 hS; refine Jb 2 <| W.ret ?_; have hS := hS.pick [2, 0, 1, 3, 4, 5, 6] rfl
  change St _ _ _ _ [_, _, _, _, _, _, _] at hS
  repeat with_reducible first | refine blk.ret ?_ | refine exits.retI ?_
  refine endC.mk ⟨[.agg #[nI Pf, nI Mf, nS A54 x53 k55, nI c18, nS A22 x19 k23], nI 0], ⟨_, _, _, rfl, rfl, JD (cs := [nI Pf, nI Mf, nS A54 x53 k55, nI c18, nS A22 x19 k23]) JQ Qy rfl (Ju (hS.own (i := 4) rfl)), ⟨_, _, rfl, rfl, rfl⟩⟩, ?_⟩; exact (hS.pick [1, 0] rfl).fin rfl ⟨Pf, Mf, x53, c18, x19, (0 : Int), A54, k55, A22, k23, hs24, rfl, rfl, hv⟩
def Jam (Pc : Int) (Mc : Int) (mc : LI) (Nc : Int) (c : LL) (Q : Int × Int × LI × Int × LL × Int -> Prop) : Prop :=
  Jci Pc Mc mc Nc c (fun r16 => ((r16 ≠ 0) -> (Q ((0 : Int), (0 : Int), ([] : LI), (0 : Int), ([] : LL), r16))) /\ (¬ (r16 ≠ 0) -> (∃ J28 : Int -> LL -> Int -> Prop, (∃ (c35 : Int) (x36 : LL) (r37 : Int), Z1 Pc Mc mc Nc c (fun q => q = (c35, x36, r37)) /\ J28 c35 x36 r37) /\ ∀ (z21 : Int) (x22 : LL) (z27 : Int), (J28 z21 x22 z27 -> (Jbc Pc Mc mc z21 x22 z27 (fun q => match q with | (none, r60) => (Q ((0 : Int), (0 : Int), ([] : LI), (0 : Int), ([] : LL), r60)) | (some x61, _) => Q (Pc, Mc, x61, z21, x22, (0 : Int))))))))
theorem Jje {w : World} {Q : Int × Int × LI × Int × LL × Int -> Prop} {Pc : Int} {Mc : Int} {mc : LI} {Nc : Int} {c : LL} {Bcf : Nat} {Acf : Option Addr} {ncf kcf : Nat} (hcf : Rd Bcf w 1 Acf ncf kcf (is mc)) {Ac : Option Addr} {nc kc : Nat} (hc : Rl w Ac nc kc c) (hv : Jam Pc Mc mc Nc c Q) :
   Calls Tryz.prog 12 #[.agg #[.int .i64 Pc, .int .i64 Mc, .slice Acf ncf kcf, .int .i64 Nc, .slice Ac nc kc]] w <| Rt w fun v Qr => ∃ (p0 : Int) (m0 : Int) (f0 : LI) (c0 : Int) (r0 : LL) (r1 : Int) (A0f : Option Addr) (k0f : Nat) (A0 : Option Addr) (k0 : Nat) (hs0 : Hs), v = .tuple #[.agg #[.int .i64 p0, .int .i64 m0, .slice A0f f0.length k0f, .int .i64 c0, .slice A0 r0.length k0], .int .i64 r1] /\ Qr = [.row 3 1 A0f f0.length k0f (is f0), mx 22 3 A0 r0.length k0 hs0 r0] /\ Q (p0, m0, f0, c0, r0, r1) := by
 have hncf := hcf.ilen; subst hncf; have hnc := hc.len; subst hnc; obtain ⟨hsc, hHc⟩ := hc.heads; refine Jh <| JZ (vs := [.agg #[nI Pc, nI Mc, nS Acf mc kcf, nI Nc, nS Ac c kc]]) [.cell 2 27, .tmp 3] XF12 rfl rfl rfl rfl ?_; have hS := Jp w; unfold Jam at hv; refine Jc 2 <| JA (z := 5) (cs := [nI Pc, nI Mc, nS Acf mc kcf, nI Nc, nS Ac c kc]) hS rfl rfl rfl rfl ?_; intro g11 w12 hS; refine SL.alloc (cs := [nI 0, nI 0, .slice none 0 0, nI 0, .slice none 0 0]) hS JQ rfl rfl ?_; intro g13 w14 hS; refine Jb 2 <| Jc 3 <| JB 1 JQ Qy hS rfl ⟨rfl, rfl⟩ rfl <| SL.call hS (Jp7 (hS.ro hcf) (RlH.rl (RlH.ext hHc hS.ext)) hv) XF31 rfl XN31 rfl rfl ?_; rintro _ _ w15 ⟨r16, rfl, rfl, hv⟩ hGw15 hS; have hS := hS.n0; refine Jb 2 <| Jc 5 <| Jg rfl (fun c17 => ?_) (fun c17 => ?_)
 .have hv := hv.1 (oT c17); refine Jc 2 <| JT (cells := #[nI 0, nI 0, .slice none 0 0, nI 0, .slice none 0 0]) Jc5 rfl rfl rfl <| Jo rfl rfl <| Jr (cs := [nI 0, nI 0, .slice none 0 0, nI 0, .slice none 0 0]) 0 hS rfl JQ rfl rfl rfl rfl rfl ?_; intro w18 hS; refine Jb 2 <| W.ret ?_; have hS := hS.nil (e := 3) (z := 1); have hS := hS.mxNil 22 3; have hm4 := hS.mxlen (i := 0) rfl; have hS := hS.relenMx (i := 0) rfl hm4.symm
  change St _ _ _ _ [_, _, _, _] at hS
  repeat with_reducible first | refine blk.ret ?_ | refine exits.retI ?_
  refine endC.mk ⟨[.agg #[nI 0, nI 0, .slice none 0 0, nI 0, .slice none 0 0], nI r16], ⟨_, _, _, rfl, rfl, JD (cs := [nI 0, nI 0, .slice none 0 0, nI 0, .slice none 0 0]) JQ Qy rfl (Ju (hS.own (i := 2) rfl)), ⟨_, _, rfl, rfl, rfl⟩⟩, ?_⟩; exact ⟨_, hS.ext, (hS.pick [1, 0] rfl).rows, J3 (hS.pick [1, 0] rfl).rows rfl, ⟨(0 : Int), (0 : Int), ([] : LI), (0 : Int), ([] : LL), r16, none, 0, none, 0, (fun _ => (none, 0)), (by (try unfold nS); first | (rw [show (Value.slice none 0 0) = Value.slice none (([] : LL)).length 0 from sm0 hm4.symm]; done) | (rw [show (Value.slice none 0 0) = Value.slice none (([] : LL)).length 0 from sm0 hm4.symm]; rfl)), rfl, hv⟩⟩
 have hv := hv.2 (oF c17); refine Jl <| Jz ?_; obtain ⟨J28, hv, hk68⟩ := hv; refine Qg (σ := Int × LL × Int × Nat × Option Addr × Nat × Hs) (fun q w1 => match q with | (z21, x22, z27, g20, A23, k24, hs25) => J28 z21 x22 z27 /\ St TT w none w1 [mx 22 3 A23 x22.length k24 hs25 x22, .row 52 2 (nA g20) 1 1 [nI z21, nS A23 x22 k24], .row 27 5 (nA g13) 1 1 [nI 0, nI 0, .slice none 0 0, nI 0, .slice none 0 0], .row 27 5 (nA g11) 1 1 [nI Pc, nI Mc, nS Acf mc kcf, nI Nc, nS Ac c kc]]) (fun (z21, x22, z27, g20, A23, k24, hs25) => [(1, nP g11), (2, nP g13), (3, nI 0), (5, nP g20), (6, nI z27)]) ?_ ?_
 .obtain ⟨c35, x36, r37, o44, hv⟩ := hv; have hS0 := hS; refine Yj 9 [7] (fun iA => [false, false, false, false, true, false, false, false, true].getD iA false) (fun iC => match iC with | 5 => some 4 | 6 => some 5 | _ => none) (fun iP v_ u_ => match iP with | 6 => u_ = exT 0 v_ | _ => u_ = v_) [⟨[], [1], true⟩, ⟨[0], [], false⟩, ⟨[], [1], false⟩, ⟨[2], [], false⟩, ⟨[1, 3], [], false⟩, ⟨[4], [], true⟩, ⟨[5], [], true⟩, ⟨[5], [], true⟩, ⟨[], [], false⟩] [.k 14 (nP g11), .k 15 (.agg #[nI Pc, nI Mc, nS Acf mc kcf]), .k 16 (.agg #[nI Pc, nI Mc, nS Acf mc kcf, nI Nc, nS Ac c kc]), .k 17 (.agg #[nI Nc, nS Ac c kc]), eX w15 18 22 3 x36.length (fun A38_4 k39_4 hs40_4 => .tuple #[.agg #[nI c35, nS A38_4 x36 k39_4], nI r37]) x36, eX w15 13 22 3 x36.length (fun A38_4_5 k39_4_5 hs40_4_5 => .tuple #[.agg #[nI c35, nS A38_4_5 x36 k39_4_5], nI r37]) x36, eX w15 19 22 3 x36.length (fun A38_4_5_6 k39_4_5_6 hs40_4_5_6 => .agg #[nI c35, nS A38_4_5_6 x36 k39_4_5_6]) x36, .k 20 (nI r37), .m 5 (fun v wQ => ∃ g49_8, v = nP g49_8 /\ Own 0 wQ 52 2 (nA g49_8) 1 1 [nI 0, .slice none 0 0] /\ (∀ g, bl (nA g49_8) = some g -> w15.heap.size <= g)) fun _ _ _ ⟨g49_8, hQe, hO51_8, hN52_8⟩ hQ2 => ⟨g49_8, hQe, hO51_8.ext hQ2, hN52_8⟩] (fun iD => [vbD, vbD, vbD, vbD, rchT, vbD, vbD, vbD, vbD].getD iD vbD) Jq (by kernel_rfl) rfl rfl ?_ ?_ ?_
  . intro jD vD w1D w2D hvD hgD gD hD_; rcases jD with _ | _ | _ | _ | _ | _ | _ | _ | _ | jD
    any_goals exact hD_
    obtain ⟨A38_4, k39_4, hs40_4, rfl, hR43_4⟩ := hvD; exact Jel hR43_4 hgD hD_
  . refine ⟨fun _ _ _ => Jd (off := 0) YW rfl rfl <| Ja ⟨rfl, rfl⟩, og hS fun _ _ hS => Qq (cs := [nI Pc, nI Mc, nS Acf mc kcf]) JS JU rfl rfl (YY (hS.rd (i := 1) rfl) 0 rfl) rfl <| Ja ⟨rfl, Je _⟩, og hS fun _ _ hS => JB 1 JQ Qy hS rfl ⟨rfl, rfl⟩ rfl <| Ja ⟨rfl, Je _⟩, ?_, ?_, ?_, ?_, ?_, ?_, trivial⟩
    .intro w32 hE; have hS := hS.grow (hE rfl); intro RR; refine WL.call XF33 rfl XN33 rfl rfl (JM (Jbt (Q := fun _ => True) (hS.ro hcf) (RlH.rl (RlH.ext hHc hS.ext)) trivial)) ?_; rintro _ w33 ⟨_, hGw33, hRww33, hNww33, rfl, rfl, _⟩; exact Ja ⟨rfl, hGw33⟩
    .intro w34 hE; have hE := hE rfl; have hS := hS.grow hE; intro RR; refine WL.call XF32 rfl XN32 rfl rfl (JM (Jp9 (hS.ro hcf) (RlH.rl (RlH.ext hHc hS.ext)) o44)) ?_; rintro _ w42 ⟨_, hGw42, hRww42, hNww42, c35q, x36q, r37q, A38, k39, hs40, rfl, rfl, he⟩; cases he; have hR43 := hRww42.mxbase hE.size; exact Ja ⟨_, rfl, hGw42, ⟨A38, k39, hs40, rfl, hR43⟩, (fun _ => fun g hg => Jgy hRww42 hg), (fun j h => by cases h)⟩
    .intro w45 hE; rintro _ ⟨A38_4, k39_4, hs40_4, rfl, hR43_4⟩; intro RR; refine Jo rfl rfl ?_; exact Ja ⟨_, rfl, rfl, ⟨A38_4, k39_4, hs40_4, rfl, hR43_4⟩, (fun h => absurd h (by decide)), (fun j h => by cases h; exact ⟨_, rfl, rfl⟩)⟩
    .intro w46 hE; rintro _ ⟨A38_4_5, k39_4_5, hs40_4_5, rfl, hR43_4_5⟩; intro RR; refine Ja9 rfl rfl rfl ?_; exact Ja ⟨_, rfl, rfl, ⟨A38_4_5, k39_4_5, hs40_4_5, rfl, hR43_4_5⟩, (fun h => absurd h (by decide)), (fun j h => by cases h; exact ⟨_, rfl, rfl⟩)⟩
    .intro w47 hE; rintro _ ⟨A38_4_5, k39_4_5, hs40_4_5, rfl, hR43_4_5⟩; intro RR; refine Ja9 rfl rfl rfl ?_; exact Ja ⟨rfl, rfl⟩
    intro w48 hE; have hE := hE rfl; have hS := hS.grow hE; intro RR; refine WL.alloc JW rfl ?_; intro g49 w50 hg49 hO51 hGw50; have hN52 : ∀ g2, bl (some ⟨g49, 0, none⟩) = some g2 -> _ <= g2 := fun g2 e => by cases e; rw [hg49]; exact hE.size
    have hO51 := Own.low (b' := 0) hO51 (Nat.zero_le _); exact Ja ⟨_, rfl, hGw50, ⟨g49, rfl, hO51, hN52⟩, (fun _ => fun g2 hg2 => by cases hg2; exact ⟨Nat.le_of_eq hg49.symm, (hO51.bl_ge _ rfl).2⟩), (fun j h => by cases h)⟩
  intro X hX; have hX : X ∈ ([[], [7]] : List (List Nat)) := hX; simp only [List.mem_cons, List.not_mem_nil, or_false] at hX; rcases hX with rfl | rfl
  .intro vals w53 hT hVs hAp hCp q_ hq_; have hS := hS.grow hT; obtain rfl : q_ = 2 := hq_.trans (by decide +kernel); obtain ⟨A38_4, k39_4, hs40_4, hv4, hR43_4⟩ := hVs 4 (by decide) (by decide); have hv5 : vals 5 = .tuple #[.agg #[nI c35, nS A38_4 x36 k39_4], nI r37] := (hCp 5 4 (by decide) (by decide) rfl).trans hv4; have hv6 : vals 6 = .agg #[nI c35, nS A38_4 x36 k39_4] := (hCp 6 5 (by decide) (by decide) rfl).trans (congrArg (fun v_ : Value => (exT 0 v_ : Value)) hv5); obtain ⟨g49_8, hv8, hO51_8, hN52_8⟩ := hVs 8 (by decide) (by decide); have hS := Jck [] hS0 hS hR43_4 (fun s hs => by cases hs); have hap8_4 : ∀ g, (.row 52 2 (some ⟨g49_8, 0, none⟩) 1 1 [.int .i64 0, .slice none 0 0] : Rw).at_ g -> ¬ (mx 22 3 A38_4 x36.length k39_4 hs40_4 x36 : Rw).at_ g := by have h_ := hAp 8 4 (by decide) (by decide) (by decide) (by decide) (by decide) rfl rfl; rw [hv8, hv4] at h_; exact fun g h1 h2 => h_ g h1 (Jf8 hR43_4 h2)
   have hS := J4 [mx 22 3 A38_4 x36.length k39_4 hs40_4 x36] hS0 hS hO51_8 hN52_8 (by intro s hs g hg; simp only [List.mem_cons, List.not_mem_nil, or_false] at hs; obtain rfl := hs; exact hap8_4 g hg); refine Yb [(4, .tuple #[.agg #[nI c35, nS A38_4 x36 k39_4], nI r37]), (5, .tuple #[.agg #[nI c35, nS A38_4 x36 k39_4], nI r37]), (6, .agg #[nI c35, nS A38_4 x36 k39_4]), (8, nP g49_8)] ⟨hv4, hv5, hv6, hv8, trivial⟩ <| Jk 9 rfl <| Jr (cs := [nI c35, nS A38_4 x36 k39_4]) 0 hS rfl JW rfl rfl rfl rfl rfl ?_; intro w56 hS; refine Ja <| Jk 10 rfl <| Jb 2 <| JJ ?_; have hS := hS.pick [1, 0, 2, 3] rfl; exact ⟨(c35, x36, r37, g49_8, A38_4, k39_4, hs40_4), sp rfl, rfl, hv, hS⟩
  intro vals w53 hT hVs hAp hCp q_ hq_; have hS := hS.grow hT; obtain rfl : q_ = 3 := hq_.trans (by decide +kernel); obtain ⟨A38_4, k39_4, hs40_4, hv4, hR43_4⟩ := hVs 4 (by decide) (by decide); have hv5 : vals 5 = .tuple #[.agg #[nI c35, nS A38_4 x36 k39_4], nI r37] := (hCp 5 4 (by decide) (by decide) rfl).trans hv4; have hv6 : vals 6 = .agg #[nI c35, nS A38_4 x36 k39_4] := (hCp 6 5 (by decide) (by decide) rfl).trans (congrArg (fun v_ : Value => (exT 0 v_ : Value)) hv5); obtain ⟨g49_8, hv8, hO51_8, hN52_8⟩ := hVs 8 (by decide) (by decide); have hS := Jck [] hS0 hS hR43_4 (fun s hs => by cases hs); have hap8_4 : ∀ g, (.row 52 2 (some ⟨g49_8, 0, none⟩) 1 1 [.int .i64 0, .slice none 0 0] : Rw).at_ g -> ¬ (mx 22 3 A38_4 x36.length k39_4 hs40_4 x36 : Rw).at_ g := by have h_ := hAp 8 4 (by decide) (by decide) (by decide) (by decide) (by decide) rfl rfl; rw [hv8, hv4] at h_; exact fun g h1 h2 => h_ g h1 (Jf8 hR43_4 h2)
  have hS := J4 [mx 22 3 A38_4 x36.length k39_4 hs40_4 x36] hS0 hS hO51_8 hN52_8 (by intro s hs g hg; simp only [List.mem_cons, List.not_mem_nil, or_false] at hs; obtain rfl := hs; exact hap8_4 g hg); refine Yb [(4, .tuple #[.agg #[nI c35, nS A38_4 x36 k39_4], nI r37]), (5, .tuple #[.agg #[nI c35, nS A38_4 x36 k39_4], nI r37]), (6, .agg #[nI c35, nS A38_4 x36 k39_4]), (8, nP g49_8)] ⟨hv4, hv5, hv6, hv8, trivial⟩ <| Qs 7 9 rfl rfl ?_ ?_
  .refine Jb 2 <| Jk 9 rfl <| Jr (cs := [nI c35, nS A38_4 x36 k39_4]) 0 hS rfl JW rfl rfl rfl rfl rfl ?_; intro w56 hS; refine Ja <| Jk 10 rfl <| Jb 2 <| JJ ?_; have hS := hS.pick [1, 0, 2, 3] rfl; exact ⟨(c35, x36, r37, g49_8, A38_4, k39_4, hs40_4), sp rfl, rfl, hv, hS⟩
  refine Jr (cs := [nI c35, nS A38_4 x36 k39_4]) 0 hS rfl JW rfl rfl rfl rfl rfl ?_; intro w56 hS; refine Ja <| Jk 7 rfl <| Jb 2 <| Jk 10 rfl <| Jb 2 <| JJ ?_; have hS := hS.pick [1, 0, 2, 3] rfl; exact ⟨(c35, x36, r37, g49_8, A38_4, k39_4, hs40_4), sp rfl, rfl, hv, hS⟩
 rintro ⟨z21, x22, z27, g20, A23, k24, hs25⟩ w57 ⟨hv, hS⟩; have hv := hk68 z21 x22 z27 hv; refine Jc 2 <| Jd (off := 0) YW rfl rfl <| Qq (cs := [nI Pc, nI Mc, nS Acf mc kcf]) JS JU rfl rfl (YY (hS.rd (i := 3) rfl) 0 rfl) rfl <| JB 1 JW QK hS rfl ⟨rfl, rfl⟩ rfl <| Jo rfl rfl <| SL.call hS (Jha (hS.ro hcf) (hS.rl (i := 0) rfl) hv) XF34 rfl XN34 rfl rfl ?_; rintro _ _ w59 ⟨o, r60, hv, hK⟩ hGw59 hS; cases o with
 | none =>
  obtain ⟨rfl, rfl⟩ := hK; have hS := hS.n0; refine Jb 2 <| Jr (cs := [nI 0, nI 0, .slice none 0 0, nI 0, .slice none 0 0]) 2 hS rfl JQ rfl rfl rfl rfl rfl ?_; intro w65 hS; refine Jb 2 <| W.ret ?_; have hS := hS.nil (e := 3) (z := 1); have hS := hS.mxNil 22 3; have hm4 := hS.mxlen (i := 0) rfl; have hS := hS.relenMx (i := 0) rfl hm4.symm
  change St _ _ _ _ [_, _, _, _, _, _] at hS
  repeat with_reducible first | refine blk.ret ?_ | refine exits.retI ?_
  refine endC.mk ⟨[.agg #[nI 0, nI 0, .slice none 0 0, nI 0, .slice none 0 0], nI r60], ⟨_, _, _, rfl, rfl, JD (cs := [nI 0, nI 0, .slice none 0 0, nI 0, .slice none 0 0]) JQ Qy rfl (Ju (hS.own (i := 4) rfl)), ⟨_, _, rfl, rfl, rfl⟩⟩, ?_⟩; exact ⟨_, hS.ext, (hS.pick [1, 0] rfl).rows, J3 (hS.pick [1, 0] rfl).rows rfl, ⟨(0 : Int), (0 : Int), ([] : LI), (0 : Int), ([] : LL), r60, none, 0, none, 0, (fun _ => (none, 0)), (by (try unfold nS); first | (rw [show (Value.slice none 0 0) = Value.slice none (([] : LL)).length 0 from sm0 hm4.symm]; done) | (rw [show (Value.slice none 0 0) = Value.slice none (([] : LL)).length 0 from sm0 hm4.symm]; rfl)), rfl, hv⟩⟩
 | some x61 =>
  obtain ⟨A62, k63, rfl, rfl, rfl⟩ := hK; have hS := hS.n1; refine Jb 2 <| Jr (cs := [nI Pc, nI Mc, nS A62 x61 k63, nI z21, nS A23 x22 k24]) 3 hS rfl JQ rfl rfl rfl rfl rfl ?_; intro w67 hS; refine Jb 2 <| W.ret ?_; have hS := hS.pick [1, 0, 2, 3, 4] rfl
  change St _ _ _ _ [_, _, _, _, _] at hS
  repeat with_reducible first | refine blk.ret ?_ | refine exits.retI ?_
  refine endC.mk ⟨[.agg #[nI Pc, nI Mc, nS A62 x61 k63, nI z21, nS A23 x22 k24], nI 0], ⟨_, _, _, rfl, rfl, JD (cs := [nI Pc, nI Mc, nS A62 x61 k63, nI z21, nS A23 x22 k24]) JQ Qy rfl (Ju (hS.own (i := 3) rfl)), ⟨_, _, rfl, rfl, rfl⟩⟩, ?_⟩; exact (hS.pick [1, 0] rfl).fin rfl ⟨Pc, Mc, x61, z21, x22, (0 : Int), A62, k63, A23, k24, hs25, rfl, rfl, hv⟩
end Go.Proofs.YtjgpkljepgcekaaGreat
namespace Go.Proofs.YtjgpkljepgcekaaGreat
open Go.RowKit
def YL (m : Int) (l : LI) (Q : LI -> Prop) : Prop :=
  ∃ (I17 : Int -> Int -> Prop) (μ18 : Int -> Int -> Nat), I17 0 (0 : Int) /\ ∀ (z15 : Int) (z16 : Int), (I17 z15 z16 -> (((z16 < (l.length : Int)) -> ((0 <= z16 /\ z16 < (l.length : Nat)) /\ ((0 <= (gi l z16) /\ I64 (QN (1 : Int) (gi l z16))) /\ ((0 <= z15 /\ z15 < 9223372036854775808 /\ 0 <= (QN (1 : Int) (gi l z16)) /\ (QN (1 : Int) (gi l z16)) < 9223372036854775808) /\ ((I64 (z16 + 1)) /\ (I17 (ior z15 (QN (1 : Int) (gi l z16))) (z16 + 1) /\ μ18 (ior z15 (QN (1 : Int) (gi l z16))) (z16 + 1) < μ18 z15 z16)))))) /\ (¬ (z16 < (l.length : Int)) -> ((0 <= m /\ I64 (QN (1 : Int) m)) /\ ((0 <= (QN (1 : Int) m) /\ (QN (1 : Int) m) * 8 <= 281474976710656 /\ (QN (1 : Int) m) <= 281474976710656) /\ (∃ (I36 : LI -> Int -> Prop) (μ37 : LI -> Int -> Nat), I36 (List.replicate (QN (1 : Int) m).toNat (0 : Int)) (0 : Int) /\ ∀ (x34 : LI) (z35 : Int), (I36 x34 z35 -> (((z35 < (((QN (1 : Int) m).toNat : Nat) : Int)) -> (∃ J41 : LI -> Prop, ((0 <= z35 /\ z35 < 9223372036854775808 /\ 0 <= z15 /\ z15 < 9223372036854775808) /\ ((((Jlq z35 z15) = z15) -> ((0 <= z35 /\ z35 < ((QN (1 : Int) m).toNat : Nat)) /\ (J41 (si x34 z35 1)))) /\ (¬ ((Jlq z35 z15) = z15) -> J41 x34))) /\ ∀ (x40 : LI), (J41 x40 -> ((I64 (z35 + 1)) /\ (I36 x40 (z35 + 1) /\ μ37 x40 (z35 + 1) < μ37 x34 z35))))) /\ (¬ (z35 < (((QN (1 : Int) m).toNat : Nat) : Int)) -> Q x34)))))))))
theorem Jhc {w : World} {Q : LI -> Prop} {m : Int} {l : LI} {Bl : Nat} {Al : Option Addr} {nl kl : Nat} (hl : Rd Bl w 1 Al nl kl (is l)) (hv : YL m l Q) :
   Calls Tryz.prog 41 #[.int .i64 m, .slice Al nl kl] w <| Rt w fun v Qr => ∃ (x : LI)  (A : Option Addr) (c : Nat), v = .slice A x.length c /\ Qr = [.row 3 1 A x.length c (is x)] /\ Q x := by
 have hnl := hl.ilen; subst hnl; refine Jh <| Ji (vs := [nI m, nS Al l kl]) [4] XF41 rfl rfl rfl rfl ?_; have hS := Jp w; unfold YL at hv; refine Jc 12 <| WL.len Jn rfl rfl <| Jb 2 <| W.block ?_; obtain ⟨I17, μ18, hv, hk50⟩ := hv; refine JC (σ := Int × Int) (fun q w1 => match q with | (z15, z16) => I17 z15 z16 /\ St TT w none w1 []) (fun (z15, z16) => [(0, nI m), (4, .slice none 0 0), (5, nI z15), (10, nS Al l kl), (11, nI (l.length : Int)), (12, nI z16)]) (fun (z15, z16) => μ18 z15 z16) ((0 : Int), (0 : Int)) ⟨hv, hS⟩ ⟨rfl, rfl, rfl, rfl, rfl, rfl, trivial⟩ ?_; rintro ⟨z15, z16⟩ w19 ⟨hv, hS⟩; have hv := hk50 z15 z16 hv; refine Jc 5 <| Jg rfl (fun c20 => ?_) (fun c20 => ?_)
 .have hv := hv.1 (oT c20); refine Jl <| Jz <| W.block <| Jc 2 ?_; obtain ⟨o21, hv⟩ := hv; refine Jf Jn XE3 (hS.ro hl) rfl rfl o21 rfl <| Jj XU3 rfl rfl (JG (hS.ro hl) o21) rfl <| Jb 2 <| Jc 3 ?_; obtain ⟨o22, hv⟩ := hv; refine Jvx (r := (QN (1 : Int) (gi l z16))) rfl rfl o22.1 (wr o22.2) rfl ?_; obtain ⟨o23, hv⟩ := hv; refine WL.bits (r := (ior z15 (QN (1 : Int) (gi l z16)))) rfl rfl (by decide) (Jws o23) rfl <| Jb 2 <| JI ?_; obtain ⟨o24, hv⟩ := hv; refine WL.add (r := (z16 + 1)) rfl rfl (wr o24) rfl <| Jb 2 ?_; exact ⟨((ior z15 (QN (1 : Int) (gi l z16))), (z16 + 1)), sp rfl, hv.2, rfl, hv.1, hS⟩
 have hv := hv.2 (oF c20); refine Jy <| Jc 3 ?_; obtain ⟨o25, hv⟩ := hv; refine Jvx (r := (QN (1 : Int) m)) rfl rfl o25.1 (wr o25.2) rfl ?_; obtain ⟨o26, hv⟩ := hv; refine Qu (J := (QN (1 : Int) m)) hS Jn XE3 rfl rfl o26 (Qz _) rfl ?_; intro A27 w28 hS; refine Jb 2 <| Jc 4 <| WL.len Jn rfl rfl <| Jb 2 <| W.block ?_; obtain ⟨I36, μ37, hv, hk49⟩ := hv; refine JC (σ := LI × Int) (fun q w1 => match q with | (x34, z35) => I36 x34 z35 /\ St TT w none w1 [.row 3 1 A27 ((QN (1 : Int) m).toNat) ((QN (1 : Int) m).toNat) (is x34)]) (fun (x34, z35) => [(4, .slice none 0 0), (5, nI z15), (8, .slice A27 ((QN (1 : Int) m).toNat) ((QN (1 : Int) m).toNat)), (25, nI (((QN (1 : Int) m).toNat : Nat) : Int)), (26, nI z35)]) (fun (x34, z35) => μ37 x34 z35) (List.replicate (QN (1 : Int) m).toNat (0 : Int), (0 : Int)) ⟨hv, hS⟩ ⟨rfl, rfl, rfl, rfl, rfl, trivial⟩ ?_; rintro ⟨x34, z35⟩ w38 ⟨hv, hS⟩; have hv := hk49 x34 z35 hv; refine Jc 5 <| Jg rfl (fun c39 => ?_) (fun c39 => ?_)
 .have hv := hv.1 (oT c39); refine Jl <| Jz ?_; obtain ⟨J41, hv, hk48⟩ := hv; refine Qg (σ := LI) (fun x40 w1 => J41 x40 /\ St TT w none w1 [.row 3 1 A27 ((QN (1 : Int) m).toNat) ((QN (1 : Int) m).toNat) (is x40)]) (fun x40 => [(4, .slice none 0 0), (5, nI z15), (8, .slice A27 ((QN (1 : Int) m).toNat) ((QN (1 : Int) m).toNat)), (9, nI z35), (25, nI (((QN (1 : Int) m).toNat : Nat) : Int)), (26, nI z35), (27, .bool (decide (z35 < (((QN (1 : Int) m).toNat : Nat) : Int)))), (33, .bool (decide ((Jlq z35 z15) = z15)))]) ?_ ?_
  .refine W.block ?_; refine Jc 9 ?_; obtain ⟨o42, hv⟩ := hv; refine WL.bits (r := (Jlq z35 z15)) rfl rfl (by decide) (Jt9 o42) rfl <| Jb 3 <| Jg rfl (fun c43 => ?_) (fun c43 => ?_)
   .have hv := hv.1 (oT c43); refine Jc 3 ?_; obtain ⟨o44, hv⟩ := hv; refine Jf Jn XE3 (hS.rd (i := 0) rfl) rfl rfl o44 rfl <| Jw (cs' := is (si x34 z35 1)) 0 z35.toNat hS rfl XE3 rfl rfl rfl (Qo (hS.rd (i := 0) rfl) o44) (J8 _ _ _) ?_; intro w45 hS; refine Ja ?_; exact ⟨si x34 z35 1, sp rfl, rfl, hv, hS⟩
   have hv := hv.2 (oF c43); refine Jl ?_; exact ⟨x34, sp rfl, rfl, hv, hS⟩
  rintro x40 w46 ⟨hv, hS⟩; have hv := hk48 x40 hv; refine JI ?_; obtain ⟨o47, hv⟩ := hv; refine WL.add (r := (z35 + 1)) rfl rfl (wr o47) rfl <| Jb 2 ?_; exact ⟨(x40, (z35 + 1)), sp rfl, hv.2, rfl, hv.1, hS⟩
 have hv := hv.2 (oF c39); refine Jy <| Jc 5 <| W.ret ?_; have hm := (hS.rd (i := 0) rfl).ilen; have hS := hS.relen (i := 0) rfl hm.symm; refine ⟨_, rfl, Fin.nil ?_⟩; exact ⟨_, hS.ext, (hS.pick [0] rfl).rows, J3 (hS.pick [0] rfl).rows rfl, ⟨x34, A27, (QN (1 : Int) m).toNat, (by rw [hm]), rfl, hv⟩⟩
def ZC (m : Int) (l : LI) (Q : LI × Int -> Prop) : Prop :=
  ((m < 0) -> (Q (([] : LI), (6 : Int)))) /\ (¬ (m < 0) -> ((((6 : Int) < m) -> (Q (([] : LI), (6 : Int)))) /\ (¬ ((6 : Int) < m) -> (∃ (I19 : Int -> Int -> Prop) (μ20 : Int -> Int -> Nat), I19 (-1 : Int) (0 : Int) /\ ∀ (z17 : Int) (z18 : Int), (I19 z17 z18 -> (((z18 < (l.length : Int)) -> ((0 <= z18 /\ z18 < (l.length : Nat)) /\ ((((gi l z18) <= z17) -> (Q (([] : LI), (5 : Int)))) /\ (¬ ((gi l z18) <= z17) -> (((m <= (gi l z18)) -> (Q (([] : LI), (5 : Int)))) /\ (¬ (m <= (gi l z18)) -> ((I64 (z18 + 1)) /\ (I19 (gi l z18) (z18 + 1) /\ μ20 (gi l z18) (z18 + 1) < μ20 z17 z18)))))))) /\ (¬ (z18 < (l.length : Int)) -> (YL m l (fun x28 => Q (x28, (0 : Int)))))))))))
theorem Jjh {w : World} {Q : LI × Int -> Prop} {m : Int} {l : LI} {Bl : Nat} {Al : Option Addr} {nl kl : Nat} (hl : Rd Bl w 1 Al nl kl (is l)) (hv : ZC m l Q) :
   Calls Tryz.prog 20 #[.int .i64 m, .slice Al nl kl] w <| Rt w fun v Qr => ∃ (r0 : LI) (r1 : Int) (A0 : Option Addr) (k0 : Nat), v = .tuple #[.slice A0 r0.length k0, .int .i64 r1] /\ Qr = [.row 3 1 A0 r0.length k0 (is r0)] /\ Q (r0, r1) := by
 have hnl := hl.ilen; subst hnl; refine Jh <| Ji (vs := [nI m, nS Al l kl]) [4, 5] XF20 rfl rfl rfl rfl ?_; have hS := Jp w; unfold ZC at hv; refine Jc 10 <| Jo rfl rfl ?_; by_cases g11 : m < 0
 .have hv := hv.1 g11; rw [decide_eq_true g11]; refine Jb 4 <| J1 rfl <| Jc 5 <| W.ret ?_; have hS := hS.nil (e := 3) (z := 1)
  change St _ _ _ _ [_] at hS
  refine ⟨_, rfl, Fin.nil ?_⟩; exact (hS.pick [0] rfl).fin rfl ⟨([] : LI), (6 : Int), none, 0, rfl, rfl, hv⟩
 have hv := hv.2 g11; rw [decide_eq_false g11]; refine Jb 6 <| Jg rfl (fun c12 => ?_) (fun c12 => ?_)
 .have hv := hv.1 (oT c12); refine Jc 5 <| W.ret ?_; have hS := hS.nil (e := 3) (z := 1)
  change St _ _ _ _ [_] at hS
  refine ⟨_, rfl, Fin.nil ?_⟩; exact (hS.pick [0] rfl).fin rfl ⟨([] : LI), (6 : Int), none, 0, rfl, rfl, hv⟩
 have hv := hv.2 (oF c12); refine Jl <| Jc 8 <| WL.len Jn rfl rfl <| Jb 2 <| W.block ?_; obtain ⟨I19, μ20, hv, hk32⟩ := hv; refine JC (σ := Int × Int) (fun q w1 => match q with | (z17, z18) => I19 z17 z18 /\ St TT w none w1 []) (fun (z17, z18) => [(0, nI m), (1, nS Al l kl), (4, .slice none 0 0), (5, nI 0), (6, nI z17), (15, nS Al l kl), (16, nI (l.length : Int)), (17, nI z18)]) (fun (z17, z18) => μ20 z17 z18) ((-1 : Int), (0 : Int)) ⟨hv, hS⟩ ⟨rfl, rfl, rfl, rfl, rfl, rfl, rfl, rfl, trivial⟩ ?_; rintro ⟨z17, z18⟩ w21 ⟨hv, hS⟩; have hv := hk32 z17 z18 hv; refine Jc 5 <| Jg rfl (fun c22 => ?_) (fun c22 => ?_)
 .have hv := hv.1 (oT c22); refine Jl <| Jz <| W.block <| Jc 2 ?_; obtain ⟨o23, hv⟩ := hv; refine Jf Jn XE3 (hS.ro hl) rfl rfl o23 rfl <| Jj XU3 rfl rfl (JG (hS.ro hl) o23) rfl <| Jb 2 <| Jc 6 <| Jo rfl rfl ?_; by_cases g24 : (gi l z18) <= z17
  .have hv := hv.1 g24; rw [decide_eq_true g24]; refine Jb 5 <| J1 rfl <| Jc 5 <| W.ret ?_; have hS := hS.nil (e := 3) (z := 1)
   change St _ _ _ _ [_] at hS
   refine ⟨_, rfl, Fin.nil ?_⟩; exact (hS.pick [0] rfl).fin rfl ⟨([] : LI), (5 : Int), none, 0, rfl, rfl, hv⟩
  have hv := hv.2 g24; rw [decide_eq_false g24]; refine Jb 8 <| Jg rfl (fun c25 => ?_) (fun c25 => ?_)
  .have hv := hv.1 (oT c25); refine Jc 5 <| W.ret ?_; have hS := hS.nil (e := 3) (z := 1)
   change St _ _ _ _ [_] at hS
   refine ⟨_, rfl, Fin.nil ?_⟩; exact (hS.pick [0] rfl).fin rfl ⟨([] : LI), (5 : Int), none, 0, rfl, rfl, hv⟩
  have hv := hv.2 (oF c25); refine Jl <| Jc 4 <| JI ?_; obtain ⟨o26, hv⟩ := hv; refine WL.add (r := (z18 + 1)) rfl rfl (wr o26) rfl <| Jb 2 ?_; exact ⟨((gi l z18), (z18 + 1)), sp rfl, hv.2, rfl, hv.1, hS⟩
 have hv := hv.2 (oF c22); refine Jy <| Jc 4 <| SL.call hS (Jhc (hS.ro hl) hv) XF41 rfl XN41 rfl rfl ?_; rintro _ _ w27 ⟨x28, A29, k30, rfl, rfl, hv⟩ hGw27 hS; have hS := hS.n1; refine Jb 3 <| W.ret <| ⟨_, rfl, Fin.nil ?_⟩
 exact (hS.pick [0] rfl).fin rfl ⟨x28, (0 : Int), A29, k30, rfl, rfl, hv⟩
def Ye (Pf : Int) (Mf : Int) (mf : LI) (n : Int) (Q : Int × Int × LI × Int × LL × Int -> Prop) : Prop :=
  Jal Pf Mf mf (fun r16 => ((r16 ≠ 0) -> (Q ((0 : Int), (0 : Int), ([] : LI), (0 : Int), ([] : LL), r16))) /\ (¬ (r16 ≠ 0) -> (((n < 1) -> (Q ((0 : Int), (0 : Int), ([] : LI), (0 : Int), ([] : LL), (4 : Int)))) /\ (¬ (n < 1) -> ((((64 : Int) < n) -> (Q ((0 : Int), (0 : Int), ([] : LI), (0 : Int), ([] : LL), (4 : Int)))) /\ (¬ ((64 : Int) < n) -> ((0 <= n /\ n * 8 <= 281474976710656 /\ n <= 281474976710656) /\ (∃ (I36 : LI -> Int -> Prop) (μ37 : LI -> Int -> Nat), I36 (List.replicate n.toNat (0 : Int)) (0 : Int) /\ ∀ (x34 : LI) (z35 : Int), (I36 x34 z35 -> (((z35 < ((n.toNat : Nat) : Int)) -> ((0 <= z35 /\ z35 < (n.toNat : Nat)) /\ ((I64 (z35 + 1)) /\ (I36 (si x34 z35 1) (z35 + 1) /\ μ37 (si x34 z35 1) (z35 + 1) < μ37 x34 z35)))) /\ (¬ (z35 < ((n.toNat : Nat) : Int)) -> (Jh9 Pf Mf mf n ([x34] : LL) (fun (r47, r48, x49, c50, x51, r52) => Q (r47, r48, x49, c50, x51, r52))))))))))))))
theorem Jav {w : World} {Q : Int × Int × LI × Int × LL × Int -> Prop} {Pf : Int} {Mf : Int} {mf : LI} {n : Int} {Bf : Nat} {Af : Option Addr} {nf kf : Nat} (hf : Rd Bf w 1 Af nf kf (is mf)) (hv : Ye Pf Mf mf n Q) :
   Calls Tryz.prog 7 #[.agg #[.int .i64 Pf, .int .i64 Mf, .slice Af nf kf], .int .i64 n] w <| Rt w fun v Qr => ∃ (p0 : Int) (m0 : Int) (f0 : LI) (c0 : Int) (r0 : LL) (r1 : Int) (A0f : Option Addr) (k0f : Nat) (A0 : Option Addr) (k0 : Nat) (hs0 : Hs), v = .tuple #[.agg #[.int .i64 p0, .int .i64 m0, .slice A0f f0.length k0f, .int .i64 c0, .slice A0 r0.length k0], .int .i64 r1] /\ Qr = [.row 3 1 A0f f0.length k0f (is f0), mx 22 3 A0 r0.length k0 hs0 r0] /\ Q (p0, m0, f0, c0, r0, r1) := by
 have hnf := hf.ilen; subst hnf; refine Jh <| JZ (vs := [.agg #[nI Pf, nI Mf, nS Af mf kf], nI n]) [.cell 4 27, .tmp 5] XF7 rfl rfl rfl rfl ?_; have hS := Jp w; unfold Ye at hv; refine Jc 2 <| JA (z := 3) (cs := [nI Pf, nI Mf, nS Af mf kf]) hS rfl rfl rfl rfl ?_; intro g11 w12 hS; refine SL.alloc (cs := [nI 0, nI 0, .slice none 0 0, nI 0, .slice none 0 0]) hS JQ rfl rfl ?_; intro g13 w14 hS; refine Jb 2 <| Jc 3 <| JB 1 JS JU hS rfl ⟨rfl, rfl⟩ rfl <| SL.call hS (Jer (hS.ro hf) hv) XF26 rfl XN26 rfl rfl ?_; rintro _ _ w15 ⟨r16, rfl, rfl, hv⟩ hGw15 hS; have hS := hS.n0; refine Jb 2 <| Jc 5 <| Jg rfl (fun c17 => ?_) (fun c17 => ?_)
 .have hv := hv.1 (oT c17); refine Jc 2 <| JT (cells := #[nI 0, nI 0, .slice none 0 0, nI 0, .slice none 0 0]) Jc5 rfl rfl rfl <| Jo rfl rfl <| Jr (cs := [nI 0, nI 0, .slice none 0 0, nI 0, .slice none 0 0]) 0 hS rfl JQ rfl rfl rfl rfl rfl ?_; intro w18 hS; refine Jb 2 <| W.ret ?_; have hS := hS.nil (e := 3) (z := 1); have hS := hS.mxNil 22 3; have hm4 := hS.mxlen (i := 0) rfl; have hS := hS.relenMx (i := 0) rfl hm4.symm
  change St _ _ _ _ [_, _, _, _] at hS
  repeat with_reducible first | refine blk.ret ?_ | refine exits.retI ?_
  refine endC.mk ⟨[.agg #[nI 0, nI 0, .slice none 0 0, nI 0, .slice none 0 0], nI r16], ⟨_, _, _, rfl, rfl, JD (cs := [nI 0, nI 0, .slice none 0 0, nI 0, .slice none 0 0]) JQ Qy rfl (Ju (hS.own (i := 2) rfl)), ⟨_, _, rfl, rfl, rfl⟩⟩, ?_⟩; exact ⟨_, hS.ext, (hS.pick [1, 0] rfl).rows, J3 (hS.pick [1, 0] rfl).rows rfl, ⟨(0 : Int), (0 : Int), ([] : LI), (0 : Int), ([] : LL), r16, none, 0, none, 0, (fun _ => (none, 0)), (by (try unfold nS); first | (rw [show (Value.slice none 0 0) = Value.slice none (([] : LL)).length 0 from sm0 hm4.symm]; done) | (rw [show (Value.slice none 0 0) = Value.slice none (([] : LL)).length 0 from sm0 hm4.symm]; rfl)), rfl, hv⟩⟩
 have hv := hv.2 (oF c17); refine Jl <| Jc 5 <| Jo rfl rfl ?_; by_cases g20 : n < 1
 .have hv := hv.1 g20; rw [decide_eq_true g20]; refine Jb 4 <| J1 rfl <| Jc 2 <| JT (cells := #[nI 0, nI 0, .slice none 0 0, nI 0, .slice none 0 0]) Jc5 rfl rfl rfl <| Jr (cs := [nI 0, nI 0, .slice none 0 0, nI 0, .slice none 0 0]) 0 hS rfl JQ rfl rfl rfl rfl rfl ?_; intro w21 hS; refine Jb 2 <| W.ret ?_; have hS := hS.nil (e := 3) (z := 1); have hS := hS.mxNil 22 3; have hm4 := hS.mxlen (i := 0) rfl; have hS := hS.relenMx (i := 0) rfl hm4.symm
  change St _ _ _ _ [_, _, _, _] at hS
  repeat with_reducible first | refine blk.ret ?_ | refine exits.retI ?_
  refine endC.mk ⟨[.agg #[nI 0, nI 0, .slice none 0 0, nI 0, .slice none 0 0], nI 4], ⟨_, _, _, rfl, rfl, JD (cs := [nI 0, nI 0, .slice none 0 0, nI 0, .slice none 0 0]) JQ Qy rfl (Ju (hS.own (i := 2) rfl)), ⟨_, _, rfl, rfl, rfl⟩⟩, ?_⟩; exact ⟨_, hS.ext, (hS.pick [1, 0] rfl).rows, J3 (hS.pick [1, 0] rfl).rows rfl, ⟨(0 : Int), (0 : Int), ([] : LI), (0 : Int), ([] : LL), (4 : Int), none, 0, none, 0, (fun _ => (none, 0)), (by (try unfold nS); first | (rw [show (Value.slice none 0 0) = Value.slice none (([] : LL)).length 0 from sm0 hm4.symm]; done) | (rw [show (Value.slice none 0 0) = Value.slice none (([] : LL)).length 0 from sm0 hm4.symm]; rfl)), rfl, hv⟩⟩
 have hv := hv.2 g20; rw [decide_eq_false g20]; refine Jb 6 <| Jg rfl (fun c23 => ?_) (fun c23 => ?_)
 .have hv := hv.1 (oT c23); refine Jc 2 <| JT (cells := #[nI 0, nI 0, .slice none 0 0, nI 0, .slice none 0 0]) Jc5 rfl rfl rfl <| Jr (cs := [nI 0, nI 0, .slice none 0 0, nI 0, .slice none 0 0]) 0 hS rfl JQ rfl rfl rfl rfl rfl ?_; intro w24 hS; refine Jb 2 <| W.ret ?_; have hS := hS.nil (e := 3) (z := 1); have hS := hS.mxNil 22 3; have hm4 := hS.mxlen (i := 0) rfl; have hS := hS.relenMx (i := 0) rfl hm4.symm
  change St _ _ _ _ [_, _, _, _] at hS
  repeat with_reducible first | refine blk.ret ?_ | refine exits.retI ?_
  refine endC.mk ⟨[.agg #[nI 0, nI 0, .slice none 0 0, nI 0, .slice none 0 0], nI 4], ⟨_, _, _, rfl, rfl, JD (cs := [nI 0, nI 0, .slice none 0 0, nI 0, .slice none 0 0]) JQ Qy rfl (Ju (hS.own (i := 2) rfl)), ⟨_, _, rfl, rfl, rfl⟩⟩, ?_⟩; exact ⟨_, hS.ext, (hS.pick [1, 0] rfl).rows, J3 (hS.pick [1, 0] rfl).rows rfl, ⟨(0 : Int), (0 : Int), ([] : LI), (0 : Int), ([] : LL), (4 : Int), none, 0, none, 0, (fun _ => (none, 0)), (by (try unfold nS); first | (rw [show (Value.slice none 0 0) = Value.slice none (([] : LL)).length 0 from sm0 hm4.symm]; done) | (rw [show (Value.slice none 0 0) = Value.slice none (([] : LL)).length 0 from sm0 hm4.symm]; rfl)), rfl, hv⟩⟩
 have hv := hv.2 (oF c23); refine Jl <| Jc 3 ?_; obtain ⟨o26, hv⟩ := hv; refine Qu (J := n) hS Jn XE3 rfl rfl o26 (Qz _) rfl ?_; intro A27 w28 hS; refine Jb 2 <| Jc 4 <| WL.len Jn rfl rfl <| Jb 2 <| W.block ?_; obtain ⟨I36, μ37, hv, hk61⟩ := hv; refine JC (σ := LI × Int) (fun q w1 => match q with | (x34, z35) => I36 x34 z35 /\ St TT w none w1 [.row 3 1 A27 n.toNat n.toNat (is x34), .row 27 5 (nA g13) 1 1 [nI 0, nI 0, .slice none 0 0, nI 0, .slice none 0 0], .row 24 3 (nA g11) 1 1 [nI Pf, nI Mf, nS Af mf kf]]) (fun (x34, z35) => [(1, nI n), (2, nP g11), (4, nP g13), (5, nI 0), (7, .slice A27 n.toNat n.toNat), (25, nI ((n.toNat : Nat) : Int)), (26, nI z35)]) (fun (x34, z35) => μ37 x34 z35) (List.replicate n.toNat (0 : Int), (0 : Int)) ⟨hv, hS⟩ ⟨rfl, rfl, rfl, rfl, rfl, rfl, rfl, trivial⟩ ?_; rintro ⟨x34, z35⟩ w38 ⟨hv, hS⟩; have hv := hk61 x34 z35 hv; refine Jc 5 <| Jg rfl (fun c39 => ?_) (fun c39 => ?_)
 .have hv := hv.1 (oT c39); refine Jl <| Jz <| W.block <| Jc 8 ?_; obtain ⟨o40, hv⟩ := hv; refine Jf Jn XE3 (hS.rd (i := 0) rfl) rfl rfl o40 rfl <| Jw (cs' := is (si x34 z35 1)) 0 z35.toNat hS rfl XE3 rfl rfl rfl (Qo (hS.rd (i := 0) rfl) o40) (J8 _ _ _) ?_; intro w41 hS; refine Ja <| JI ?_; obtain ⟨o42, hv⟩ := hv; refine WL.add (r := (z35 + 1)) rfl rfl (wr o42) rfl <| Jb 2 ?_; exact ⟨(si x34 z35 1, (z35 + 1)), sp rfl, hv.2, rfl, hv.1, hS⟩
 have hv := hv.2 (oF c39); refine Jy <| Jc 2 <| JB 2 JS JU hS rfl ⟨rfl, rfl⟩ rfl <| Jb 2 <| Qb (vs := [.slice A27 n.toNat n.toNat]) hS Jv Jt rfl rfl rfl rfl (by simp [Value.oneCell']) rfl ?_; intro A43 w44 hS; refine JT (cells := #[nI n, .slice A43 1 1]) Jh3 rfl rfl rfl <| SL.call hS (Jw3 (hS.ro hf) (⟨_, _, (hS.rd (i := 0) rfl), ⟨⟨_, _, _, (sm0 (hS.rd (i := 1) rfl).ilen.symm), (Jpi (hS.rd (i := 1) rfl))⟩, trivial⟩⟩ : Rl _ _ _ _ ([x34] : LL)) hv) XF27 rfl XN27 rfl rfl ?_; rintro _ _ w46 ⟨r47, r48, x49, c50, x51, r52, A53, k54, A56, k57, hs58, rfl, rfl, hv⟩ hGw46 hS; have hS := hS.n2; refine Jb 2 <| Jr (cs := [nI r47, nI r48, nS A53 x49 k54, nI c50, nS A56 x51 k57]) 4 hS rfl JQ rfl rfl rfl rfl rfl ?_; intro w60 hS; refine Jb 2 <| W.ret ?_; have hS := hS.pick [1, 0, 2, 3, 4, 5] rfl
 change St _ _ _ _ [_, _, _, _, _, _] at hS
 repeat with_reducible first | refine blk.ret ?_ | refine exits.retI ?_
 refine endC.mk ⟨[.agg #[nI r47, nI r48, nS A53 x49 k54, nI c50, nS A56 x51 k57], nI r52], ⟨_, _, _, rfl, rfl, JD (cs := [nI r47, nI r48, nS A53 x49 k54, nI c50, nS A56 x51 k57]) JQ Qy rfl (Ju (hS.own (i := 4) rfl)), ⟨_, _, rfl, rfl, rfl⟩⟩, ?_⟩; exact (hS.pick [1, 0] rfl).fin rfl ⟨r47, r48, x49, c50, x51, r52, A53, k54, A56, k57, hs58, rfl, rfl, hv⟩
def Jcj (Pf : Int) (Mf : Int) (mf : LI) (n : Int) (Q : Int × Int × LI × Int × LL × Int -> Prop) : Prop :=
  Ye Pf Mf mf n (fun (r16, r17, x18, c19, x20, r21) => ((r21 ≠ 0) -> (Q ((0 : Int), (0 : Int), ([] : LI), (0 : Int), ([] : LL), r21))) /\ (¬ (r21 ≠ 0) -> (Jam r16 r17 x18 c19 x20 (fun (r36, r37, x38, c39, x40, r41) => Q (r36, r37, x38, c39, x40, r41)))))
theorem Jp8 {w : World} {Q : Int × Int × LI × Int × LL × Int -> Prop} {Pf : Int} {Mf : Int} {mf : LI} {n : Int} {Bf : Nat} {Af : Option Addr} {nf kf : Nat} (hf : Rd Bf w 1 Af nf kf (is mf)) (hv : Jcj Pf Mf mf n Q) :
   Calls Tryz.prog 9 #[.agg #[.int .i64 Pf, .int .i64 Mf, .slice Af nf kf], .int .i64 n] w <| Rt w fun v Qr => ∃ (p0 : Int) (m0 : Int) (f0 : LI) (c0 : Int) (r0 : LL) (r1 : Int) (A0f : Option Addr) (k0f : Nat) (A0 : Option Addr) (k0 : Nat) (hs0 : Hs), v = .tuple #[.agg #[.int .i64 p0, .int .i64 m0, .slice A0f f0.length k0f, .int .i64 c0, .slice A0 r0.length k0], .int .i64 r1] /\ Qr = [.row 3 1 A0f f0.length k0f (is f0), mx 22 3 A0 r0.length k0 hs0 r0] /\ Q (p0, m0, f0, c0, r0, r1) := by
 have hnf := hf.ilen; subst hnf; refine Jh <| JZ (vs := [.agg #[nI Pf, nI Mf, nS Af mf kf], nI n]) [.cell 4 27, .tmp 5] XF9 rfl rfl rfl rfl ?_; have hS := Jp w; unfold Jcj at hv; refine Jc 2 <| JA (z := 3) (cs := [nI Pf, nI Mf, nS Af mf kf]) hS rfl rfl rfl rfl ?_; intro g11 w12 hS; refine SL.alloc (cs := [nI 0, nI 0, .slice none 0 0, nI 0, .slice none 0 0]) hS JQ rfl rfl ?_; intro g13 w14 hS; refine Jb 2 <| Jc 2 <| JB 1 JS JU hS rfl ⟨rfl, rfl⟩ rfl <| Jo rfl rfl <| SL.call hS (Jav (hS.ro hf) hv) XF7 rfl XN7 rfl rfl ?_; rintro _ _ w15 ⟨r16, r17, x18, c19, x20, r21, A22, k23, A25, k26, hs27, rfl, rfl, hv⟩ hGw15 hS; have hS := hS.n2; refine Jb 3 <| SL.alloc (cs := [nI 0, nI 0, .slice none 0 0, nI 0, .slice none 0 0]) hS JQ rfl rfl ?_; intro g29 w30 hS; refine Jr (cs := [nI r16, nI r17, nS A22 x18 k23, nI c19, nS A25 x20 k26]) 0 hS rfl JQ rfl rfl rfl rfl rfl ?_; intro w31 hS; refine Jb 2 <| Jc 6 <| Jg rfl (fun c32 => ?_) (fun c32 => ?_)
 .have hv := hv.1 (oT c32); refine Jc 2 <| JT (cells := #[nI 0, nI 0, .slice none 0 0, nI 0, .slice none 0 0]) Jc5 rfl rfl rfl <| Jo rfl rfl <| Jr (cs := [nI 0, nI 0, .slice none 0 0, nI 0, .slice none 0 0]) 3 hS rfl JQ rfl rfl rfl rfl rfl ?_; intro w33 hS; refine Jb 2 <| W.ret ?_; have hS := hS.nil (e := 3) (z := 1); have hS := hS.mxNil 22 3; have hm4 := hS.mxlen (i := 0) rfl; have hS := hS.relenMx (i := 0) rfl hm4.symm
  change St _ _ _ _ [_, _, _, _, _, _, _] at hS
  repeat with_reducible first | refine blk.ret ?_ | refine exits.retI ?_
  refine endC.mk ⟨[.agg #[nI 0, nI 0, .slice none 0 0, nI 0, .slice none 0 0], nI r21], ⟨_, _, _, rfl, rfl, JD (cs := [nI 0, nI 0, .slice none 0 0, nI 0, .slice none 0 0]) JQ Qy rfl (Ju (hS.own (i := 5) rfl)), ⟨_, _, rfl, rfl, rfl⟩⟩, ?_⟩; exact ⟨_, hS.ext, (hS.pick [1, 0] rfl).rows, J3 (hS.pick [1, 0] rfl).rows rfl, ⟨(0 : Int), (0 : Int), ([] : LI), (0 : Int), ([] : LL), r21, none, 0, none, 0, (fun _ => (none, 0)), (by (try unfold nS); first | (rw [show (Value.slice none 0 0) = Value.slice none (([] : LL)).length 0 from sm0 hm4.symm]; done) | (rw [show (Value.slice none 0 0) = Value.slice none (([] : LL)).length 0 from sm0 hm4.symm]; rfl)), rfl, hv⟩⟩
 have hv := hv.2 (oF c32); refine Jl <| Jc 2 <| JB 0 JQ Qy hS rfl ⟨rfl, rfl⟩ rfl <| SL.call hS (Jje (hS.rd (i := 1) rfl) (hS.rl (i := 2) rfl) hv) XF12 rfl XN12 rfl rfl ?_; rintro _ _ w35 ⟨r36, r37, x38, c39, x40, r41, A42, k43, A45, k46, hs47, rfl, rfl, hv⟩ hGw35 hS; have hS := hS.n2; refine Jb 2 <| Jr (cs := [nI r36, nI r37, nS A42 x38 k43, nI c39, nS A45 x40 k46]) 5 hS rfl JQ rfl rfl rfl rfl rfl ?_; intro w49 hS; refine Jb 2 <| W.ret ?_; have hS := hS.pick [1, 0, 2, 3, 4, 5, 6] rfl
 change St _ _ _ _ [_, _, _, _, _, _, _] at hS
 repeat with_reducible first | refine blk.ret ?_ | refine exits.retI ?_
 refine endC.mk ⟨[.agg #[nI r36, nI r37, nS A42 x38 k43, nI c39, nS A45 x40 k46], nI r41], ⟨_, _, _, rfl, rfl, JD (cs := [nI r36, nI r37, nS A42 x38 k43, nI c39, nS A45 x40 k46]) JQ Qy rfl (Ju (hS.own (i := 5) rfl)), ⟨_, _, rfl, rfl, rfl⟩⟩, ?_⟩; exact (hS.pick [1, 0] rfl).fin rfl ⟨r36, r37, x38, c39, x40, r41, A42, k43, A45, k46, hs47, rfl, rfl, hv⟩
end Go.Proofs.YtjgpkljepgcekaaGreat
namespace Go.Proofs.YtjgpkljepgcekaaGreat
open Go.RowKit
def Zf  (Q : Bool -> Prop) : Prop :=
  ZC (2 : Int) ([(0 : Int), (1 : Int)] : LI) (fun (x15, r16) => ((r16 = 0) -> ((((x15.length : Int) = (4 : Int)) -> ((0 <= (0 : Int) /\ (0 : Int) < (x15.length : Nat)) /\ ((((gi x15 0) = 0) -> ((0 <= (1 : Int) /\ (1 : Int) < (x15.length : Nat)) /\ ((((gi x15 1) = 0) -> ((0 <= (2 : Int) /\ (2 : Int) < (x15.length : Nat)) /\ ((((gi x15 2) = 0) -> ((0 <= (3 : Int) /\ (3 : Int) < (x15.length : Nat)) /\ (Q (decide ((gi x15 3) = 1))))) /\ (¬ ((gi x15 2) = 0) -> Q false)))) /\ (¬ ((gi x15 1) = 0) -> Q false)))) /\ (¬ ((gi x15 0) = 0) -> Q false)))) /\ (¬ ((x15.length : Int) = (4 : Int)) -> Q false))) /\ (¬ (r16 = 0) -> Q false))
theorem Jlg {w : World} {Q : Bool -> Prop}   (hv : Zf  Q) :
   Calls Tryz.prog 14 #[] w <| Rt w fun v Qr => ∃ (r0 : Bool), v = .bool r0 /\ Qr = [] /\ Q r0 := by
 refine Jh <| Ji (vs := []) [0] XF14 rfl rfl rfl rfl ?_; have hS := Jp w; unfold Zf at hv; refine Jc 6 <| Qb (vs := is ([(0 : Int), (1 : Int)] : LI)) hS Jn XE3 rfl rfl rfl rfl (Ql _) rfl ?_; intro A11 w12 hS; refine SL.call hS (Jjh (hS.rd (i := 0) rfl) hv) XF20 rfl XN20 rfl rfl ?_; rintro _ _ w14 ⟨x15, r16, A17, k18, rfl, rfl, hv⟩ hGw14 hS; have hS := hS.n1; refine Jb 6 <| Jc 4 <| Jo rfl rfl ?_; by_cases g20 : r16 = 0
 .have hv := hv.1 g20; rw [decide_eq_true g20]; refine Jb 3 <| WL.len Jn rfl rfl <| Jb 3 <| Jo rfl rfl ?_; by_cases g21 : (x15.length : Int) = (4 : Int)
  .have hv := hv.1 g21; rw [decide_eq_true g21]; refine Jb 3 ?_; obtain ⟨o22, hv⟩ := hv; refine Jf Jn XE3 (hS.rd (i := 0) rfl) rfl rfl o22 rfl <| WL.take rfl <| Jj XU3 rfl rfl (JG (hS.rd (i := 0) rfl) o22) rfl <| Jb 3 <| Jo rfl rfl ?_; by_cases g23 : (gi x15 0) = 0
   .have hv := hv.1 g23; rw [decide_eq_true g23]; refine Jb 3 ?_; obtain ⟨o24, hv⟩ := hv; refine Jf Jn XE3 (hS.rd (i := 0) rfl) rfl rfl o24 rfl <| WL.take rfl <| Jj XU3 rfl rfl (JG (hS.rd (i := 0) rfl) o24) rfl <| Jb 3 <| Jo rfl rfl ?_; by_cases g25 : (gi x15 1) = 0
    .have hv := hv.1 g25; rw [decide_eq_true g25]; refine Jb 3 ?_; obtain ⟨o26, hv⟩ := hv; refine Jf Jn XE3 (hS.rd (i := 0) rfl) rfl rfl o26 rfl <| WL.take rfl <| Jj XU3 rfl rfl (JG (hS.rd (i := 0) rfl) o26) rfl <| Jb 3 <| Jo rfl rfl ?_; by_cases g27 : (gi x15 2) = 0
     .have hv := hv.1 g27; rw [decide_eq_true g27]; refine Jb 3 ?_; obtain ⟨o28, hv⟩ := hv; refine Jf Jn XE3 (hS.rd (i := 0) rfl) rfl rfl o28 rfl <| WL.take rfl <| Jj XU3 rfl rfl (JG (hS.rd (i := 0) rfl) o28) rfl <| Jb 5 <| W.ret <| ⟨_, rfl, Fin.nil ?_⟩
      exact (hS.pick [] rfl).fin rfl ⟨(decide ((gi x15 3) = 1)), rfl, rfl, hv⟩
     have hv := hv.2 g27; rw [decide_eq_false g27]; refine Jb 7 <| W.ret <| ⟨_, rfl, Fin.nil ?_⟩
     exact (hS.pick [] rfl).fin rfl ⟨false, rfl, rfl, hv⟩
    have hv := hv.2 g25; rw [decide_eq_false g25]; refine Jb 13 <| W.ret <| ⟨_, rfl, Fin.nil ?_⟩
    exact (hS.pick [] rfl).fin rfl ⟨false, rfl, rfl, hv⟩
   have hv := hv.2 g23; rw [decide_eq_false g23]; refine Jb 19 <| W.ret <| ⟨_, rfl, Fin.nil ?_⟩
   exact (hS.pick [] rfl).fin rfl ⟨false, rfl, rfl, hv⟩
  have hv := hv.2 g21; rw [decide_eq_false g21]; refine Jb 25 <| W.ret <| ⟨_, rfl, Fin.nil ?_⟩
  exact (hS.pick [] rfl).fin rfl ⟨false, rfl, rfl, hv⟩
 have hv := hv.2 g20; rw [decide_eq_false g20]; refine Jb 30 <| W.ret <| ⟨_, rfl, Fin.nil ?_⟩
 exact (hS.pick [] rfl).fin rfl ⟨false, rfl, rfl, hv⟩
def Yu (Pc : Int) (Mc : Int) (mc : LI) (Nc : Int) (c : LL) (e : Int) (Pd : Int) (Md : Int) (md : LI) (Nd : Int) (d : LL) (x : Int) (Q : Bool -> Prop) : Prop :=
  ((e = x) -> (YB Pc Mc mc Nc c Pd Md md Nd d (fun r17 => Q r17))) /\ (¬ (e = x) -> Q false)
theorem Jf9 {w : World} {Q : Bool -> Prop} {Pc : Int} {Mc : Int} {mc : LI} {Nc : Int} {c : LL} {e : Int} {Pd : Int} {Md : Int} {md : LI} {Nd : Int} {d : LL} {x : Int} {Bcf : Nat} {Acf : Option Addr} {ncf kcf : Nat} (hcf : Rd Bcf w 1 Acf ncf kcf (is mc)) {Ac : Option Addr} {nc kc : Nat} (hc : Rl w Ac nc kc c) {Bdf : Nat} {Adf : Option Addr} {ndf kdf : Nat} (hdf : Rd Bdf w 1 Adf ndf kdf (is md)) {Ad : Option Addr} {nd kd : Nat} (hd : Rl w Ad nd kd d) (hv : Yu Pc Mc mc Nc c e Pd Md md Nd d x Q) :
   Calls Tryz.prog 11 #[.agg #[.int .i64 Pc, .int .i64 Mc, .slice Acf ncf kcf, .int .i64 Nc, .slice Ac nc kc], .int .i64 e, .agg #[.int .i64 Pd, .int .i64 Md, .slice Adf ndf kdf, .int .i64 Nd, .slice Ad nd kd], .int .i64 x] w <| Rt w fun v Qr => ∃ (r0 : Bool), v = .bool r0 /\ Qr = [] /\ Q r0 := by
 have hncf := hcf.ilen; subst hncf; have hnc := hc.len; subst hnc; obtain ⟨hsc, hHc⟩ := hc.heads; have hndf := hdf.ilen; subst hndf; have hnd := hd.len; subst hnd; obtain ⟨hsd, hHd⟩ := hd.heads; refine Jh <| Ji (vs := [.agg #[nI Pc, nI Mc, nS Acf mc kcf, nI Nc, nS Ac c kc], nI e, .agg #[nI Pd, nI Md, nS Adf md kdf, nI Nd, nS Ad d kd], nI x]) [8] XF11 rfl rfl rfl rfl ?_; have hS := Jp w; unfold Yu at hv; refine Jc 2 <| JA (z := 5) (cs := [nI Pc, nI Mc, nS Acf mc kcf, nI Nc, nS Ac c kc]) hS rfl rfl rfl rfl ?_; intro g11 w12 hS; refine JA (z := 5) (cs := [nI Pd, nI Md, nS Adf md kdf, nI Nd, nS Ad d kd]) hS rfl rfl rfl rfl ?_; intro g13 w14 hS; refine Jb 2 <| Jc 5 <| Jo rfl rfl ?_; by_cases g15 : e = x
 .have hv := hv.1 g15; rw [decide_eq_true g15]; refine WL.take rfl <| JB 1 JQ Qy hS rfl ⟨rfl, rfl⟩ rfl <| WL.take rfl <| JB 0 JQ Qy hS rfl ⟨rfl, rfl⟩ rfl <| WL.take rfl <| SL.call hS (Jga (hS.ro hcf) (RlH.rl (RlH.ext hHc hS.ext)) (hS.ro hdf) (RlH.rl (RlH.ext hHd hS.ext)) hv) XF13 rfl XN13 rfl rfl ?_; rintro _ _ w16 ⟨r17, rfl, rfl, hv⟩ hGw16 hS; have hS := hS.n0; refine Jb 3 <| W.ret <| ⟨_, rfl, Fin.nil ?_⟩
  exact (hS.pick [] rfl).fin rfl ⟨r17, rfl, rfl, hv⟩
 have hv := hv.2 g15; rw [decide_eq_false g15]; refine Jb 6 <| W.ret <| ⟨_, rfl, Fin.nil ?_⟩
 exact (hS.pick [] rfl).fin rfl ⟨false, rfl, rfl, hv⟩
end Go.Proofs.YtjgpkljepgcekaaGreat
namespace Go.Proofs.YtjgpkljepgcekaaGreat
open Go.RowKit
def QQ (Pf : Int) (Mf : Int) (mf : LI) (n : Int) (Q : Int × Int × LI × Int × LL × Int -> Prop) : Prop :=
  Za Pf Mf mf (fun r16 => ((r16 ≠ 0) -> (Q ((0 : Int), (0 : Int), ([] : LI), (0 : Int), ([] : LL), (1 : Int)))) /\ (¬ (r16 ≠ 0) -> (((n < 1) -> (Q ((0 : Int), (0 : Int), ([] : LI), (0 : Int), ([] : LL), (4 : Int)))) /\ (¬ (n < 1) -> ((((64 : Int) < n) -> (Q ((0 : Int), (0 : Int), ([] : LI), (0 : Int), ([] : LL), (4 : Int)))) /\ (¬ ((64 : Int) < n) -> ((0 <= n /\ n * 8 <= 281474976710656 /\ n <= 281474976710656) /\ (∃ (I36 : LI -> Int -> Prop) (μ37 : LI -> Int -> Nat), I36 (List.replicate n.toNat (0 : Int)) (0 : Int) /\ ∀ (x34 : LI) (z35 : Int), (I36 x34 z35 -> (((z35 < n) -> ((0 <= z35 /\ z35 < (n.toNat : Nat)) /\ ((I64 (z35 + 1)) /\ (I36 (si x34 z35 1) (z35 + 1) /\ μ37 (si x34 z35 1) (z35 + 1) < μ37 x34 z35)))) /\ (¬ (z35 < n) -> (ZZ Pf Mf mf ([x34] : LL) n (fun (r47, r48, x49, c50, x51) => Q (r47, r48, x49, c50, x51, (0 : Int)))))))))))))))
theorem ZM {w : World} {Q : Int × Int × LI × Int × LL × Int -> Prop} {Pf : Int} {Mf : Int} {mf : LI} {n : Int} {Bf : Nat} {Af : Option Addr} {nf kf : Nat} (hf : Rd Bf w 1 Af nf kf (is mf)) (hv : QQ Pf Mf mf n Q) :
   Calls Tryz.prog 8 #[.agg #[.int .i64 Pf, .int .i64 Mf, .slice Af nf kf], .int .i64 n] w <| Rt w fun v Qr => ∃ (p0 : Int) (m0 : Int) (f0 : LI) (c0 : Int) (r0 : LL) (r1 : Int) (A0f : Option Addr) (k0f : Nat) (A0 : Option Addr) (k0 : Nat) (hs0 : Hs), v = .tuple #[.agg #[.int .i64 p0, .int .i64 m0, .slice A0f f0.length k0f, .int .i64 c0, .slice A0 r0.length k0], .int .i64 r1] /\ Qr = [.row 3 1 A0f f0.length k0f (is f0), mx 22 3 A0 r0.length k0 hs0 r0] /\ Q (p0, m0, f0, c0, r0, r1) := by
 have hnf := hf.ilen; subst hnf; refine Jh <| JZ (vs := [.agg #[nI Pf, nI Mf, nS Af mf kf], nI n]) [.cell 4 27, .tmp 5] XF8 rfl rfl rfl rfl ?_; have hS := Jp w; unfold QQ at hv; refine Jc 2 <| JA (z := 3) (cs := [nI Pf, nI Mf, nS Af mf kf]) hS rfl rfl rfl rfl ?_; intro g11 w12 hS; refine SL.alloc (cs := [nI 0, nI 0, .slice none 0 0, nI 0, .slice none 0 0]) hS JQ rfl rfl ?_; intro g13 w14 hS; refine Jb 2 <| Jc 3 <| JB 1 JS JU hS rfl ⟨rfl, rfl⟩ rfl <| SL.call hS (Jcr (hS.ro hf) hv) XF28 rfl XN28 rfl rfl ?_; rintro _ _ w15 ⟨r16, rfl, rfl, hv⟩ hGw15 hS; have hS := hS.n0; refine Jb 2 <| Jg rfl (fun c17 => ?_) (fun c17 => ?_)
 .have hv := hv.1 (oT c17); refine Jc 2 <| JT (cells := #[nI 0, nI 0, .slice none 0 0, nI 0, .slice none 0 0]) Jc5 rfl rfl rfl <| Jr (cs := [nI 0, nI 0, .slice none 0 0, nI 0, .slice none 0 0]) 0 hS rfl JQ rfl rfl rfl rfl rfl ?_; intro w18 hS; refine Jb 2 <| W.ret ?_; have hS := hS.nil (e := 3) (z := 1); have hS := hS.mxNil 22 3; have hm4 := hS.mxlen (i := 0) rfl; have hS := hS.relenMx (i := 0) rfl hm4.symm
  change St _ _ _ _ [_, _, _, _] at hS
  repeat with_reducible first | refine blk.ret ?_ | refine exits.retI ?_
  refine endC.mk ⟨[.agg #[nI 0, nI 0, .slice none 0 0, nI 0, .slice none 0 0], nI 1], ⟨_, _, _, rfl, rfl, JD (cs := [nI 0, nI 0, .slice none 0 0, nI 0, .slice none 0 0]) JQ Qy rfl (Ju (hS.own (i := 2) rfl)), ⟨_, _, rfl, rfl, rfl⟩⟩, ?_⟩; exact ⟨_, hS.ext, (hS.pick [1, 0] rfl).rows, J3 (hS.pick [1, 0] rfl).rows rfl, ⟨(0 : Int), (0 : Int), ([] : LI), (0 : Int), ([] : LL), (1 : Int), none, 0, none, 0, (fun _ => (none, 0)), (by (try unfold nS); first | (rw [show (Value.slice none 0 0) = Value.slice none (([] : LL)).length 0 from sm0 hm4.symm]; done) | (rw [show (Value.slice none 0 0) = Value.slice none (([] : LL)).length 0 from sm0 hm4.symm]; rfl)), rfl, hv⟩⟩
 have hv := hv.2 (oF c17); refine Jl <| Jc 5 <| Jo rfl rfl ?_; by_cases g20 : n < 1
 .have hv := hv.1 g20; rw [decide_eq_true g20]; refine Jb 4 <| J1 rfl <| Jc 2 <| JT (cells := #[nI 0, nI 0, .slice none 0 0, nI 0, .slice none 0 0]) Jc5 rfl rfl rfl <| Jr (cs := [nI 0, nI 0, .slice none 0 0, nI 0, .slice none 0 0]) 0 hS rfl JQ rfl rfl rfl rfl rfl ?_; intro w21 hS; refine Jb 2 <| W.ret ?_; have hS := hS.nil (e := 3) (z := 1); have hS := hS.mxNil 22 3; have hm4 := hS.mxlen (i := 0) rfl; have hS := hS.relenMx (i := 0) rfl hm4.symm
  change St _ _ _ _ [_, _, _, _] at hS
  repeat with_reducible first | refine blk.ret ?_ | refine exits.retI ?_
  refine endC.mk ⟨[.agg #[nI 0, nI 0, .slice none 0 0, nI 0, .slice none 0 0], nI 4], ⟨_, _, _, rfl, rfl, JD (cs := [nI 0, nI 0, .slice none 0 0, nI 0, .slice none 0 0]) JQ Qy rfl (Ju (hS.own (i := 2) rfl)), ⟨_, _, rfl, rfl, rfl⟩⟩, ?_⟩; exact ⟨_, hS.ext, (hS.pick [1, 0] rfl).rows, J3 (hS.pick [1, 0] rfl).rows rfl, ⟨(0 : Int), (0 : Int), ([] : LI), (0 : Int), ([] : LL), (4 : Int), none, 0, none, 0, (fun _ => (none, 0)), (by (try unfold nS); first | (rw [show (Value.slice none 0 0) = Value.slice none (([] : LL)).length 0 from sm0 hm4.symm]; done) | (rw [show (Value.slice none 0 0) = Value.slice none (([] : LL)).length 0 from sm0 hm4.symm]; rfl)), rfl, hv⟩⟩
 have hv := hv.2 g20; rw [decide_eq_false g20]; refine Jb 6 <| Jg rfl (fun c23 => ?_) (fun c23 => ?_)
 .have hv := hv.1 (oT c23); refine Jc 2 <| JT (cells := #[nI 0, nI 0, .slice none 0 0, nI 0, .slice none 0 0]) Jc5 rfl rfl rfl <| Jr (cs := [nI 0, nI 0, .slice none 0 0, nI 0, .slice none 0 0]) 0 hS rfl JQ rfl rfl rfl rfl rfl ?_; intro w24 hS; refine Jb 2 <| W.ret ?_; have hS := hS.nil (e := 3) (z := 1); have hS := hS.mxNil 22 3; have hm4 := hS.mxlen (i := 0) rfl; have hS := hS.relenMx (i := 0) rfl hm4.symm
  change St _ _ _ _ [_, _, _, _] at hS
  repeat with_reducible first | refine blk.ret ?_ | refine exits.retI ?_
  refine endC.mk ⟨[.agg #[nI 0, nI 0, .slice none 0 0, nI 0, .slice none 0 0], nI 4], ⟨_, _, _, rfl, rfl, JD (cs := [nI 0, nI 0, .slice none 0 0, nI 0, .slice none 0 0]) JQ Qy rfl (Ju (hS.own (i := 2) rfl)), ⟨_, _, rfl, rfl, rfl⟩⟩, ?_⟩; exact ⟨_, hS.ext, (hS.pick [1, 0] rfl).rows, J3 (hS.pick [1, 0] rfl).rows rfl, ⟨(0 : Int), (0 : Int), ([] : LI), (0 : Int), ([] : LL), (4 : Int), none, 0, none, 0, (fun _ => (none, 0)), (by (try unfold nS); first | (rw [show (Value.slice none 0 0) = Value.slice none (([] : LL)).length 0 from sm0 hm4.symm]; done) | (rw [show (Value.slice none 0 0) = Value.slice none (([] : LL)).length 0 from sm0 hm4.symm]; rfl)), rfl, hv⟩⟩
 have hv := hv.2 (oF c23); refine Jl <| Jc 3 ?_; obtain ⟨o26, hv⟩ := hv; refine Qu (J := n) hS Jn XE3 rfl rfl o26 (Qz _) rfl ?_; intro A27 w28 hS; refine Jb 2 <| Jc 5 <| W.block ?_; obtain ⟨I36, μ37, hv, hk60⟩ := hv; refine JC (σ := LI × Int) (fun q w1 => match q with | (x34, z35) => I36 x34 z35 /\ St TT w none w1 [.row 3 1 A27 n.toNat n.toNat (is x34), .row 27 5 (nA g13) 1 1 [nI 0, nI 0, .slice none 0 0, nI 0, .slice none 0 0], .row 24 3 (nA g11) 1 1 [nI Pf, nI Mf, nS Af mf kf]]) (fun (x34, z35) => [(1, nI n), (2, nP g11), (4, nP g13), (5, nI 0), (6, .slice A27 n.toNat n.toNat), (7, nI z35)]) (fun (x34, z35) => μ37 x34 z35) (List.replicate n.toNat (0 : Int), (0 : Int)) ⟨hv, hS⟩ ⟨rfl, rfl, rfl, rfl, rfl, rfl, trivial⟩ ?_; rintro ⟨x34, z35⟩ w38 ⟨hv, hS⟩; have hv := hk60 x34 z35 hv; refine Jc 7 <| Jg rfl (fun c39 => ?_) (fun c39 => ?_)
 .have hv := hv.1 (oT c39); refine Jl <| Jz <| W.block <| Jc 3 ?_; obtain ⟨o40, hv⟩ := hv; refine Jf Jn XE3 (hS.rd (i := 0) rfl) rfl rfl o40 rfl <| Jw (cs' := is (si x34 z35 1)) 0 z35.toNat hS rfl XE3 rfl rfl rfl (Qo (hS.rd (i := 0) rfl) o40) (J8 _ _ _) ?_; intro w41 hS; refine Ja <| Jc 2 ?_; obtain ⟨o42, hv⟩ := hv; refine WL.add (r := (z35 + 1)) rfl rfl (wr o42) rfl <| Jb 2 ?_; exact ⟨(si x34 z35 1, (z35 + 1)), sp rfl, hv.2, rfl, hv.1, hS⟩
 have hv := hv.2 (oF c39); refine Jy <| Jc 2 <| JB 2 JS JU hS rfl ⟨rfl, rfl⟩ rfl <| Jo rfl rfl <| Qb (vs := [.slice A27 n.toNat n.toNat]) hS Jv Jt rfl rfl rfl rfl (by simp [Value.oneCell']) rfl ?_; intro A43 w44 hS; refine Jo rfl rfl <| SL.call hS (Jgb (hS.ro hf) (⟨_, _, (hS.rd (i := 0) rfl), ⟨⟨_, _, _, (sm0 (hS.rd (i := 1) rfl).ilen.symm), (Jpi (hS.rd (i := 1) rfl))⟩, trivial⟩⟩ : Rl _ _ _ _ ([x34] : LL)) hv) XF29 rfl XN29 rfl rfl ?_; rintro _ _ w46 ⟨r47, r48, x49, c50, x51, A52, k53, A55, k56, hs57, rfl, rfl, hv⟩ hGw46 hS; have hS := hS.n2; refine Jr (cs := [nI r47, nI r48, nS A52 x49 k53, nI c50, nS A55 x51 k56]) 4 hS rfl JQ rfl rfl rfl rfl rfl ?_; intro w59 hS; refine Jb 2 <| W.ret ?_; have hS := hS.pick [1, 0, 2, 3, 4, 5] rfl
 change St _ _ _ _ [_, _, _, _, _, _] at hS
 repeat with_reducible first | refine blk.ret ?_ | refine exits.retI ?_
 refine endC.mk ⟨[.agg #[nI r47, nI r48, nS A52 x49 k53, nI c50, nS A55 x51 k56], nI 0], ⟨_, _, _, rfl, rfl, JD (cs := [nI r47, nI r48, nS A52 x49 k53, nI c50, nS A55 x51 k56]) JQ Qy rfl (Ju (hS.own (i := 4) rfl)), ⟨_, _, rfl, rfl, rfl⟩⟩, ?_⟩; exact (hS.pick [1, 0] rfl).fin rfl ⟨r47, r48, x49, c50, x51, (0 : Int), A52, k53, A55, k56, hs57, rfl, rfl, hv⟩
def Jai (Pf : Int) (Mf : Int) (mf : LI) (n : Int) (Q : Int × Int × LI × Int × LL × Int -> Prop) : Prop :=
  QQ Pf Mf mf n (fun (r16, r17, x18, c19, x20, r21) => ((r21 ≠ 0) -> (Q ((0 : Int), (0 : Int), ([] : LI), (0 : Int), ([] : LL), r21))) /\ (¬ (r21 ≠ 0) -> (Jca r16 r17 x18 c19 x20 (fun (r36, r37, x38, c39, x40, r41) => Q (r36, r37, x38, c39, x40, r41)))))
theorem Jlc {w : World} {Q : Int × Int × LI × Int × LL × Int -> Prop} {Pf : Int} {Mf : Int} {mf : LI} {n : Int} {Bf : Nat} {Af : Option Addr} {nf kf : Nat} (hf : Rd Bf w 1 Af nf kf (is mf)) (hv : Jai Pf Mf mf n Q) :
   Calls Tryz.prog 10 #[.agg #[.int .i64 Pf, .int .i64 Mf, .slice Af nf kf], .int .i64 n] w <| Rt w fun v Qr => ∃ (p0 : Int) (m0 : Int) (f0 : LI) (c0 : Int) (r0 : LL) (r1 : Int) (A0f : Option Addr) (k0f : Nat) (A0 : Option Addr) (k0 : Nat) (hs0 : Hs), v = .tuple #[.agg #[.int .i64 p0, .int .i64 m0, .slice A0f f0.length k0f, .int .i64 c0, .slice A0 r0.length k0], .int .i64 r1] /\ Qr = [.row 3 1 A0f f0.length k0f (is f0), mx 22 3 A0 r0.length k0 hs0 r0] /\ Q (p0, m0, f0, c0, r0, r1) := by
 have hnf := hf.ilen; subst hnf; refine Jh <| JZ (vs := [.agg #[nI Pf, nI Mf, nS Af mf kf], nI n]) [.cell 4 27, .tmp 5] XF10 rfl rfl rfl rfl ?_; have hS := Jp w; unfold Jai at hv; refine Jc 2 <| JA (z := 3) (cs := [nI Pf, nI Mf, nS Af mf kf]) hS rfl rfl rfl rfl ?_; intro g11 w12 hS; refine SL.alloc (cs := [nI 0, nI 0, .slice none 0 0, nI 0, .slice none 0 0]) hS JQ rfl rfl ?_; intro g13 w14 hS; refine Jb 2 <| Jc 2 <| JB 1 JS JU hS rfl ⟨rfl, rfl⟩ rfl <| Jo rfl rfl <| SL.call hS (ZM (hS.ro hf) hv) XF8 rfl XN8 rfl rfl ?_; rintro _ _ w15 ⟨r16, r17, x18, c19, x20, r21, A22, k23, A25, k26, hs27, rfl, rfl, hv⟩ hGw15 hS; have hS := hS.n2; refine Jb 3 <| SL.alloc (cs := [nI 0, nI 0, .slice none 0 0, nI 0, .slice none 0 0]) hS JQ rfl rfl ?_; intro g29 w30 hS; refine Jr (cs := [nI r16, nI r17, nS A22 x18 k23, nI c19, nS A25 x20 k26]) 0 hS rfl JQ rfl rfl rfl rfl rfl ?_; intro w31 hS; refine Jb 2 <| Jc 6 <| Jg rfl (fun c32 => ?_) (fun c32 => ?_)
 .have hv := hv.1 (oT c32); refine Jc 2 <| JT (cells := #[nI 0, nI 0, .slice none 0 0, nI 0, .slice none 0 0]) Jc5 rfl rfl rfl <| Jo rfl rfl <| Jr (cs := [nI 0, nI 0, .slice none 0 0, nI 0, .slice none 0 0]) 3 hS rfl JQ rfl rfl rfl rfl rfl ?_; intro w33 hS; refine Jb 2 <| W.ret ?_; have hS := hS.nil (e := 3) (z := 1); have hS := hS.mxNil 22 3; have hm4 := hS.mxlen (i := 0) rfl; have hS := hS.relenMx (i := 0) rfl hm4.symm
  change St _ _ _ _ [_, _, _, _, _, _, _] at hS
  repeat with_reducible first | refine blk.ret ?_ | refine exits.retI ?_
  refine endC.mk ⟨[.agg #[nI 0, nI 0, .slice none 0 0, nI 0, .slice none 0 0], nI r21], ⟨_, _, _, rfl, rfl, JD (cs := [nI 0, nI 0, .slice none 0 0, nI 0, .slice none 0 0]) JQ Qy rfl (Ju (hS.own (i := 5) rfl)), ⟨_, _, rfl, rfl, rfl⟩⟩, ?_⟩; exact ⟨_, hS.ext, (hS.pick [1, 0] rfl).rows, J3 (hS.pick [1, 0] rfl).rows rfl, ⟨(0 : Int), (0 : Int), ([] : LI), (0 : Int), ([] : LL), r21, none, 0, none, 0, (fun _ => (none, 0)), (by (try unfold nS); first | (rw [show (Value.slice none 0 0) = Value.slice none (([] : LL)).length 0 from sm0 hm4.symm]; done) | (rw [show (Value.slice none 0 0) = Value.slice none (([] : LL)).length 0 from sm0 hm4.symm]; rfl)), rfl, hv⟩⟩
 have hv := hv.2 (oF c32); refine Jl <| Jc 2 <| JB 0 JQ Qy hS rfl ⟨rfl, rfl⟩ rfl <| SL.call hS (Jp0 (hS.rd (i := 1) rfl) (hS.rl (i := 2) rfl) hv) XF30 rfl XN30 rfl rfl ?_; rintro _ _ w35 ⟨r36, r37, x38, c39, x40, r41, A42, k43, A45, k46, hs47, rfl, rfl, hv⟩ hGw35 hS; have hS := hS.n2; refine Jb 2 <| Jr (cs := [nI r36, nI r37, nS A42 x38 k43, nI c39, nS A45 x40 k46]) 5 hS rfl JQ rfl rfl rfl rfl rfl ?_; intro w49 hS; refine Jb 2 <| W.ret ?_; have hS := hS.pick [1, 0, 2, 3, 4, 5, 6] rfl
 change St _ _ _ _ [_, _, _, _, _, _, _] at hS
 repeat with_reducible first | refine blk.ret ?_ | refine exits.retI ?_
 refine endC.mk ⟨[.agg #[nI r36, nI r37, nS A42 x38 k43, nI c39, nS A45 x40 k46], nI r41], ⟨_, _, _, rfl, rfl, JD (cs := [nI r36, nI r37, nS A42 x38 k43, nI c39, nS A45 x40 k46]) JQ Qy rfl (Ju (hS.own (i := 5) rfl)), ⟨_, _, rfl, rfl, rfl⟩⟩, ?_⟩; exact (hS.pick [1, 0] rfl).fin rfl ⟨r36, r37, x38, c39, x40, r41, A42, k43, A45, k46, hs47, rfl, rfl, hv⟩
end Go.Proofs.YtjgpkljepgcekaaGreat
namespace Go.Proofs.YtjgpkljepgcekaaGreat
open Go.RowKit
def YX (Pf : Int) (Mf : Int) (mf : LI) (n : Int) (Q : Bool -> Prop) : Prop :=
  Ye Pf Mf mf n (fun (r14, r15, x16, c17, x18, r19) => QQ Pf Mf mf n (fun (r31, r32, x33, c34, x35, r36) => Jcj Pf Mf mf n (fun (r48, r49, x50, c51, x52, r53) => Jai Pf Mf mf n (fun (r65, r66, x67, c68, x69, r70) => Yu r14 r15 x16 c17 x18 r19 r31 r32 x33 c34 x35 r36 (fun r82 => (((!r82) = true) -> Q false) /\ ((!r82) = false -> (Yu r48 r49 x50 c51 x52 r53 r65 r66 x67 c68 x69 r70 (fun r85 => (((!r85) = true) -> Q false) /\ ((!r85) = false -> (∃ J87 : Prop, (((r36 = 0) -> (Jam r14 r15 x16 c17 x18 (fun (r90, r91, x92, c93, x94, r95) => ((r95 ≠ 0) -> Q false) /\ (¬ (r95 ≠ 0) -> (YB r90 r91 x92 c93 x94 r48 r49 x50 c51 x52 (fun r108 => (((!r108) = true) -> Q false) /\ ((!r108) = false -> J87))))))) /\ (¬ (r36 = 0) -> J87)) /\ (J87 -> (Zf  (fun r112 => Q r112)))))))))))))
theorem Jet {w : World} {Q : Bool -> Prop} {Pf : Int} {Mf : Int} {mf : LI} {n : Int} {Bf : Nat} {Af : Option Addr} {nf kf : Nat} (hf : Rd Bf w 1 Af nf kf (is mf)) (hv : YX Pf Mf mf n Q) :
   Calls Tryz.prog 3 #[.agg #[.int .i64 Pf, .int .i64 Mf, .slice Af nf kf], .int .i64 n] w <| Rt w fun v Qr => ∃ (r0 : Bool), v = .bool r0 /\ Qr = [] /\ Q r0 := by
 have hnf := hf.ilen; subst hnf; refine Jh <| Ji (vs := [.agg #[nI Pf, nI Mf, nS Af mf kf], nI n]) [4] XF3 rfl rfl rfl rfl ?_; have hS := Jp w; unfold YX at hv; refine Jc 2 <| JA (z := 3) (cs := [nI Pf, nI Mf, nS Af mf kf]) hS rfl rfl rfl rfl ?_; intro g11 w12 hS; refine Jb 2 <| Jc 2 <| JB 0 JS JU hS rfl ⟨rfl, rfl⟩ rfl <| Jo rfl rfl <| SL.call hS (Jav (hS.ro hf) hv) XF7 rfl XN7 rfl rfl ?_; rintro _ _ w13 ⟨r14, r15, x16, c17, x18, r19, A20, k21, A23, k24, hs25, rfl, rfl, hv⟩ hGw13 hS; have hS := hS.n2; refine Jb 3 <| SL.alloc (cs := [nI 0, nI 0, .slice none 0 0, nI 0, .slice none 0 0]) hS JQ rfl rfl ?_; intro g27 w28 hS; refine Jr (cs := [nI r14, nI r15, nS A20 x16 k21, nI c17, nS A23 x18 k24]) 0 hS rfl JQ rfl rfl rfl rfl rfl ?_; intro w29 hS; refine Jb 2 <| Jc 2 <| JB 3 JS JU hS rfl ⟨rfl, rfl⟩ rfl <| Jo rfl rfl <| SL.call hS (ZM (hS.ro hf) hv) XF8 rfl XN8 rfl rfl ?_; rintro _ _ w30 ⟨r31, r32, x33, c34, x35, r36, A37, k38, A40, k41, hs42, rfl, rfl, hv⟩ hGw30 hS; have hS := hS.n2; refine Jb 3 <| SL.alloc (cs := [nI 0, nI 0, .slice none 0 0, nI 0, .slice none 0 0]) hS JQ rfl rfl ?_; intro g44 w45 hS; refine Jr (cs := [nI r31, nI r32, nS A37 x33 k38, nI c34, nS A40 x35 k41]) 0 hS rfl JQ rfl rfl rfl rfl rfl ?_; intro w46 hS; refine Jb 2 <| Jc 2 <| JB 6 JS JU hS rfl ⟨rfl, rfl⟩ rfl <| Jo rfl rfl <| SL.call hS (Jp8 (hS.ro hf) hv) XF9 rfl XN9 rfl rfl ?_; rintro _ _ w47 ⟨r48, r49, x50, c51, x52, r53, A54, k55, A57, k58, hs59, rfl, rfl, hv⟩ hGw47 hS; have hS := hS.n2; refine Jb 3 <| SL.alloc (cs := [nI 0, nI 0, .slice none 0 0, nI 0, .slice none 0 0]) hS JQ rfl rfl ?_; intro g61 w62 hS; refine Jr (cs := [nI r48, nI r49, nS A54 x50 k55, nI c51, nS A57 x52 k58]) 0 hS rfl JQ rfl rfl rfl rfl rfl ?_; intro w63 hS; refine Jb 2 <| Jc 2 <| JB 9 JS JU hS rfl ⟨rfl, rfl⟩ rfl <| Jo rfl rfl <| SL.call hS (Jlc (hS.ro hf) hv) XF10 rfl XN10 rfl rfl ?_; rintro _ _ w64 ⟨r65, r66, x67, c68, x69, r70, A71, k72, A74, k75, hs76, rfl, rfl, hv⟩ hGw64 hS; have hS := hS.n2; refine Jb 3 <| SL.alloc (cs := [nI 0, nI 0, .slice none 0 0, nI 0, .slice none 0 0]) hS JQ rfl rfl ?_; intro g78 w79 hS; refine Jr (cs := [nI r65, nI r66, nS A71 x67 k72, nI c68, nS A74 x69 k75]) 0 hS rfl JQ rfl rfl rfl rfl rfl ?_; intro w80 hS; refine Jb 2 <| Jc 3 <| JB 9 JQ Qy hS rfl ⟨rfl, rfl⟩ rfl <| Jo rfl rfl <| JB 6 JQ Qy hS rfl ⟨rfl, rfl⟩ rfl <| Jo rfl rfl <| SL.call hS (Jf9 (hS.rd (i := 10) rfl) (hS.rl (i := 11) rfl) (hS.rd (i := 7) rfl) (hS.rl (i := 8) rfl) hv) XF11 rfl XN11 rfl rfl ?_; rintro _ _ w81 ⟨r82, rfl, rfl, hv⟩ hGw81 hS; have hS := hS.n0; refine Ja8 rfl rfl <| Jo rfl rfl ?_; rcases g83 : (!r82) with _ | _
 .have hv := hv.2 g83; refine WL.take rfl <| JB 3 JQ Qy hS rfl ⟨rfl, rfl⟩ rfl <| Jb 3 <| JB 0 JQ Qy hS rfl ⟨rfl, rfl⟩ rfl <| Jb 3 <| SL.call hS (Jf9 (hS.rd (i := 4) rfl) (hS.rl (i := 5) rfl) (hS.rd (i := 1) rfl) (hS.rl (i := 2) rfl) hv) XF11 rfl XN11 rfl rfl ?_; rintro _ _ w84 ⟨r85, rfl, rfl, hv⟩ hGw84 hS; have hS := hS.n0; refine Jb 4 <| Jg rfl (fun c86 => ?_) (fun c86 => ?_)
  .have hv := hv.1 (c86); refine Jc 4 <| W.ret <| ⟨_, rfl, Fin.nil ?_⟩
   exact (hS.pick [] rfl).fin rfl ⟨false, rfl, rfl, hv⟩
  have hv := hv.2 (c86); refine Jl <| Jc 6 ?_; obtain ⟨J87, hv, hk113⟩ := hv; refine Qg (σ := Unit) (fun _ w1 => J87 /\ St TT w none w1 [.row 27 5 (nA g78) 1 1 [nI r65, nI r66, nS A71 x67 k72, nI c68, nS A74 x69 k75], nR 3 A71 x67 k72, mx 22 3 A74 x69.length k75 hs76 x69, .row 27 5 (nA g61) 1 1 [nI r48, nI r49, nS A54 x50 k55, nI c51, nS A57 x52 k58], nR 3 A54 x50 k55, mx 22 3 A57 x52.length k58 hs59 x52, .row 27 5 (nA g44) 1 1 [nI r31, nI r32, nS A37 x33 k38, nI c34, nS A40 x35 k41], nR 3 A37 x33 k38, mx 22 3 A40 x35.length k41 hs42 x35, .row 27 5 (nA g27) 1 1 [nI r14, nI r15, nS A20 x16 k21, nI c17, nS A23 x18 k24], nR 3 A20 x16 k21, mx 22 3 A23 x18.length k24 hs25 x18, .row 24 3 (nA g11) 1 1 [nI Pf, nI Mf, nS Af mf kf]]) (fun _ => [(4, .bool false)]) ?_ ?_
  .refine Jg rfl (fun c88 => ?_) (fun c88 => ?_)
   .have hv := hv.1 (oT c88); refine Jc 2 <| JB 9 JQ Qy hS rfl ⟨rfl, rfl⟩ rfl <| SL.call hS (Jje (hS.rd (i := 10) rfl) (hS.rl (i := 11) rfl) hv) XF12 rfl XN12 rfl rfl ?_; rintro _ _ w89 ⟨r90, r91, x92, c93, x94, r95, A96, k97, A99, k100, hs101, rfl, rfl, hv⟩ hGw89 hS; have hS := hS.n2; refine Jb 3 <| SL.alloc (cs := [nI 0, nI 0, .slice none 0 0, nI 0, .slice none 0 0]) hS JQ rfl rfl ?_; intro g103 w104 hS; refine Jr (cs := [nI r90, nI r91, nS A96 x92 k97, nI c93, nS A99 x94 k100]) 0 hS rfl JQ rfl rfl rfl rfl rfl ?_; intro w105 hS; refine Jb 2 <| Jc 4 <| Jo rfl rfl ?_; by_cases g106 : r95 ≠ 0
    .have hv := hv.1 g106; rw [decide_eq_true g106]; refine Jb 6 <| J1 rfl <| Jc 4 <| W.ret <| ⟨_, rfl, Fin.nil ?_⟩
     exact (hS.pick [] rfl).fin rfl ⟨false, rfl, rfl, hv⟩
    have hv := hv.2 g106; rw [decide_eq_false g106]; refine WL.take rfl <| JB 0 JQ Qy hS rfl ⟨rfl, rfl⟩ rfl <| WL.take rfl <| JB 6 JQ Qy hS rfl ⟨rfl, rfl⟩ rfl <| WL.take rfl <| SL.call hS (Jga (hS.rd (i := 1) rfl) (hS.rl (i := 2) rfl) (hS.rd (i := 7) rfl) (hS.rl (i := 8) rfl) hv) XF13 rfl XN13 rfl rfl ?_; rintro _ _ w107 ⟨r108, rfl, rfl, hv⟩ hGw107 hS; have hS := hS.n0; refine Jb 4 <| Jg rfl (fun c109 => ?_) (fun c109 => ?_)
    .have hv := hv.1 (c109); refine Jc 4 <| W.ret <| ⟨_, rfl, Fin.nil ?_⟩
     exact (hS.pick [] rfl).fin rfl ⟨false, rfl, rfl, hv⟩
    have hv := hv.2 (c109); refine Jl ?_; have hS := hS.pick [3, 4, 5, 6, 7, 8, 9, 10, 11, 12, 13, 14, 15] rfl; exact ⟨(), ⟨rfl, trivial⟩, rfl, hv, hS⟩
   have hv := hv.2 (oF c88); refine Jl ?_; exact ⟨(), ⟨rfl, trivial⟩, rfl, hv, hS⟩
  rintro _ w110 ⟨hv, hS⟩; have hv := hk113  hv; refine Jc 2 <| SL.call hS (Jlg  hv) XF14 rfl XN14 rfl rfl ?_; rintro _ _ w111 ⟨r112, rfl, rfl, hv⟩ hGw111 hS; have hS := hS.n0; refine Jb 2 <| W.ret <| ⟨_, rfl, Fin.nil ?_⟩
  exact (hS.pick [] rfl).fin rfl ⟨r112, rfl, rfl, hv⟩
 have hv := hv.1 g83; refine Jb 8 <| J1 rfl <| Jc 4 <| W.ret <| ⟨_, rfl, Fin.nil ?_⟩
 exact (hS.pick [] rfl).fin rfl ⟨false, rfl, rfl, hv⟩
end Go.Proofs.YtjgpkljepgcekaaGreat
namespace Go.Proofs.YtjgpkljepgcekaaGreat
open Go.RowKit
/-! ### append of zeros onto nil; lists joined -/
section
variable {P : Program} {n : Nat} {ro : Option Nat} {df : List Deferred} {N : J7} {L : Fr} {w w0 : World} {ops : Array Oper} {rest : List Oper}
variable {d : Nat} {ty : TypeId} {pos : String} {af : Array Edge} {X : World -> Prop} {mr : Option Nat} {R : List Rw}
end
end Go.Proofs.YtjgpkljepgcekaaGreat
namespace Go.Proofs.YtjgpkljepgcekaaGreat
open Go.RowKit
end Go.Proofs.YtjgpkljepgcekaaGreat
namespace Go.Proofs.YtjgpkljepgcekaaGreat
open Go.RowKit
end Go.Proofs.YtjgpkljepgcekaaGreat
namespace Go.Proofs.YtjgpkljepgcekaaGreat
open Go.RowKit
end Go.Proofs.YtjgpkljepgcekaaGreat
namespace Go.Proofs.YtjgpkljepgcekaaGreat
abbrev Vec := Nat -> Int
def tX (m : Nat) (c : Vec) (v : Vec) : Vec := fun i => if i < m then (if i = 0 then 0 else v (i - 1)) - c i * v (m - 1) else 0
def JV (u v : Vec) : Vec := fun i => u i + v i
def vsm (a : Int) (v : Vec) : Vec := fun i => a * v i
def vz : Vec := fun _ => 0
def e0 : Vec := fun i => if i = 0 then 1 else 0
def tXn (m : Nat) (c : Vec) : Nat -> Vec -> Vec
  | 0, v => v
  | n + 1, v => tX m c (tXn m c n v)
def opr (m : Nat) (c b : Vec) : Nat -> Vec -> Vec
  | 0, _ => vz
  | n + 1, v => JV (opr m c b n v) (vsm (b n) (tXn m c n v))
def Yf (m : Nat) (c a b : Vec) : Vec := opr m c b m a
section
variable (m : Nat) (c : Vec)
theorem tX_add (u v : Vec) : tX m c (JV u v) = JV (tX m c u) (tX m c v) := by
 funext i; simp only [tX, JV]; split
 .split <;> grind
 .rfl
theorem tX_sm (a : Int) (v : Vec) : tX m c (vsm a v) = vsm a (tX m c v) := by
 funext i; simp only [tX, vsm]; split
 .split <;> grind
 .grind
theorem tX_z : tX m c vz = vz := by funext i; simp [tX, vz]
theorem Ja0 (u : Vec) : JV u vz = u := by funext i; simp [JV, vz]
theorem z_vadd (u : Vec) : JV vz u = u := by funext i; simp [JV, vz]
theorem Jf2 (u v : Vec) : JV u v = JV v u := by funext i; simp only [JV]; omega
theorem Zi (u v w : Vec) : JV (JV u v) w = JV u (JV v w) := by funext i; simp only [JV]; omega
theorem Jdm (a : Int) (u v : Vec) : vsm a (JV u v) = JV (vsm a u) (vsm a v) := by funext i; simp only [JV, vsm]; grind
theorem Jgq (a b : Int) (u : Vec) : vsm a (vsm b u) = vsm (a * b) u := by funext i; simp only [vsm]; grind
theorem Jnz (a : Int) : vsm a vz = vz := by funext i; simp [vsm, vz]
theorem Jbn (n : Nat) (u v : Vec) : tXn m c n (JV u v) = JV (tXn m c n u) (tXn m c n v) := by
 induction n with
 | zero => rfl
 | succ n ih => simp only [tXn, ih, tX_add]
theorem Jcm (n : Nat) (a : Int) (v : Vec) : tXn m c n (vsm a v) = vsm a (tXn m c n v) := by
 induction n with
 | zero => rfl
 | succ n ih => simp only [tXn, ih, tX_sm]
theorem Jir (n : Nat) : tXn m c n vz = vz := by
 induction n with
 | zero => rfl
 | succ n ih => simp only [tXn, ih, tX_z]
theorem Jtu (n : Nat) (v : Vec) : tXn m c n (tX m c v) = tX m c (tXn m c n v) := by
 induction n with
 | zero => rfl
 | succ n ih => simp only [tXn, ih]
theorem Jdq (n k : Nat) (v : Vec) : tXn m c n (tXn m c k v) = tXn m c (n + k) v := by
 induction n with
 | zero => simp [tXn]
 | succ n ih => rw [Nat.succ_add]; simp only [tXn, ih]
variable (b : Vec)
theorem Joe (n : Nat) (u v : Vec) : opr m c b n (JV u v) = JV (opr m c b n u) (opr m c b n v) := by
 induction n with
 | zero => simp [opr, Ja0]
 | succ n ih => simp only [opr, ih, Jbn, Jdm]; funext i; simp only [JV]; omega
theorem Jk7 (n : Nat) (a : Int) (v : Vec) : opr m c b n (vsm a v) = vsm a (opr m c b n v) := by
 induction n with
 | zero => simp [opr, Jnz]
 | succ n ih => simp only [opr, ih, Jcm, Jdm, Jgq]; rw [Int.mul_comm (b n) a]
theorem opr_z (n : Nat) : opr m c b n vz = vz := by
 induction n with
 | zero => rfl
 | succ n ih => simp only [opr, ih, Jir, Jnz, Ja0]
theorem Jod (n k : Nat) (v : Vec) : opr m c b n (tXn m c k v) = tXn m c k (opr m c b n v) := by
 induction n with
 | zero => simp [opr, Jir]
 | succ n ih => simp only [opr, ih, Jbn, Jcm, Jdq]; rw [Nat.add_comm n k]
theorem Ji4 (d : Vec) (n k : Nat) (v : Vec) : opr m c b n (opr m c d k v) = opr m c d k (opr m c b n v) := by
 induction n with
 | zero => simp only [opr, opr_z]
 | succ n ih => simp only [opr, ih, Joe, Jk7, Jod]
theorem Juf (d : Vec) (n : Nat) (v : Vec) : opr m c (JV b d) n v = JV (opr m c b n v) (opr m c d n v) := by
 induction n with
 | zero => simp [opr, Ja0]
 | succ n ih => simp only [opr, ih]; funext i; simp only [JV, vsm]; grind
end
def vei (k : Nat) : Vec := fun i => if i = k then 1 else 0
theorem Jkx {m : Nat} {c : Vec} : ∀ {k : Nat}, k < m -> tXn m c k e0 = vei k
 | 0, _ => rfl
 | k + 1, h => by
  have ih : tXn m c k e0 = vei k := Jkx (by omega); simp only [tXn, ih]; funext i; simp only [tX, vei]; split
  .rw [if_neg (show ¬ m - 1 = k by omega)]; by_cases h0 : i = 0
   .subst h0; simp
   .simp only [h0, if_false]; by_cases h1 : i = k + 1
    .subst h1; simp
    .rw [if_neg (by omega), if_neg h1]; simp
  .rw [if_neg (by omega)]
theorem Jg4 {m : Nat} {c a : Vec} : ∀ {n : Nat}, n <= m -> ∀ i, opr m c a n e0 i = if i < n then a i else 0
  | 0, _, i => by simp [opr, vz]
  | n + 1, h, i => by
    simp only [opr, JV, vsm]
    rw [Jg4 (n := n) (by omega) i, Jkx (by omega)]
    simp only [vei]
    by_cases h1 : i = n
    . subst h1; simp
    . by_cases h2 : i < n
      . simp [h2, h1, show i < n + 1 by omega]
      . simp [h2, h1, show ¬ i < n + 1 by omega]
def Sup (m : Nat) (v : Vec) : Prop := ∀ i, m <= i -> v i = 0
theorem Y3 {m : Nat} {c a : Vec} (h : Sup m a) : opr m c a m e0 = a := by
 funext i; rw [Jg4 (Nat.le_refl m)]; split
 .rfl
 .exact (h i (by omega)).symm
theorem Sup.z {m : Nat} : Sup m vz := fun _ _ => rfl
theorem Sup.tX {m : Nat} {c v : Vec} : Sup m (tX m c v) := fun i h => by simp [Go.Proofs.YtjgpkljepgcekaaGreat.tX, show ¬ i < m by omega]
theorem Sup.add {m : Nat} {u v : Vec} (hu : Sup m u) (hv : Sup m v) : Sup m (JV u v) := fun i h => by simp [JV, hu i h, hv i h]
theorem Sup.sm {m : Nat} {a : Int} {v : Vec} (hv : Sup m v) : Sup m (vsm a v) := fun i h => by simp [vsm, hv i h]
theorem Sup.tXn {m : Nat} {c v : Vec} (hv : Sup m v) : ∀ n, Sup m (tXn m c n v)
 | 0 => hv
 | _ + 1 => Sup.tX
theorem Sup.opr {m : Nat} {c b v : Vec} (hv : Sup m v) : ∀ n, Sup m (opr m c b n v)
 | 0 => Sup.z
 | n + 1 => (Sup.opr hv n).add (hv.tXn n).sm
theorem Z2 {m : Nat} {c a b : Vec} (ha : Sup m a) (hb : Sup m b) : Yf m c a b = Yf m c b a := by
 unfold Yf
 calc opr m c b m a = opr m c b m (opr m c a m e0) := by rw [Y3 ha]
  _ = opr m c a m (opr m c b m e0) := Ji4 ..
  _ = opr m c a m b := by rw [Y3 hb]
theorem Jkt {m : Nat} {c a b d : Vec} (ha : Sup m a) (hb : Sup m b) (hd : Sup m d) : Yf m c (Yf m c a b) d = Yf m c a (Yf m c b d) := by
 rw [Z2 (a := a) (b := Yf m c b d) ha (Sup.opr hb m)]; show opr m c d m (opr m c b m a) = opr m c a m (opr m c d m b); rw [<- Ji4 m c d a m m b]; show opr m c d m (Yf m c a b) = opr m c d m (Yf m c b a); rw [Z2 ha hb]
theorem Jth {m : Nat} {c a b d : Vec} : Yf m c a (JV b d) = JV (Yf m c a b) (Yf m c a d) := Juf ..
theorem Jtg {m : Nat} {c a : Vec} (hm : 0 < m) : Yf m c a e0 = a := by
 have key : ∀ n, 0 < n -> opr m c e0 n a = a := by
  intro n
  induction n with
  | zero => intro h; omega
  | succ n ih =>
   intro _; rcases Nat.eq_zero_or_pos n with h | h
   .subst h; funext i; simp [opr, e0, JV, vsm, vz, tXn]
   .simp only [opr, ih h]; funext i; simp [e0, JV, vsm, show n ≠ 0 by omega]
 exact key m hm
def vcg (p : Int) (u v : Vec) : Prop := ∀ i, u i % p = v i % p
section
variable {p : Int} {m : Nat} {c c' u u' v v' b b' : Vec}
theorem vcg.refl (u : Vec) : vcg p u u := fun _ => rfl
theorem vcg.symm (h : vcg p u v) : vcg p v u := fun i => (h i).symm
theorem vcg.trans {w : Vec} (h : vcg p u v) (k : vcg p v w) : vcg p u w := fun i => (h i).trans (k i)
theorem Jcx {a a' d d' : Int} (h : a % p = a' % p) (k : d % p = d' % p) : (a * d) % p = (a' * d') % p := by
 rw [Int.mul_emod, h, k, <- Int.mul_emod]
theorem Jc4 {a a' d d' : Int} (h : a % p = a' % p) (k : d % p = d' % p) : (a + d) % p = (a' + d') % p := by
 rw [Int.add_emod, h, k, <- Int.add_emod]
theorem Jky {a a' d d' : Int} (h : a % p = a' % p) (k : d % p = d' % p) : (a - d) % p = (a' - d') % p := by
 rw [Int.sub_emod, h, k, <- Int.sub_emod]
theorem vcg.add (h : vcg p u u') (k : vcg p v v') : vcg p (JV u v) (JV u' v') := fun i => Jc4 (h i) (k i)
theorem vcg.sm {a a' : Int} (ha : a % p = a' % p) (h : vcg p u u') : vcg p (vsm a u) (vsm a' u') := fun i => Jcx ha (h i)
theorem vcg.tX (hc : vcg p c c') (h : vcg p u u') : vcg p (tX m c u) (tX m c' u') := fun i => by
 simp only [Go.Proofs.YtjgpkljepgcekaaGreat.tX]; split
 .split
  .exact Jky rfl (Jcx (hc i) (h _))
  .exact Jky (h _) (Jcx (hc i) (h _))
 .rfl
theorem vcg.tXn (hc : vcg p c c') (h : vcg p u u') : ∀ n, vcg p (tXn m c n u) (tXn m c' n u')
 | 0 => h
 | n + 1 => vcg.tX hc (vcg.tXn hc h n)
theorem vcg.opr (hc : vcg p c c') (hb : vcg p b b') (h : vcg p u u') : ∀ n, vcg p (opr m c b n u) (opr m c' b' n u')
 | 0 => .refl _
 | n + 1 => (vcg.opr hc hb h n).add (vcg.sm (hb n) (vcg.tXn hc h n))
theorem vcg.mul (hc : vcg p c c') (h : vcg p u u') (hb : vcg p b b') : vcg p (Yf m c u b) (Yf m c' u' b') := vcg.opr hc hb h m
end
end Go.Proofs.YtjgpkljepgcekaaGreat
namespace Go.Proofs.YtjgpkljepgcekaaGreat
def dv (p x : Nat) : Vec := fun i => ((x / p ^ i % p : Nat) : Int)
def vl (p : Nat) : Nat -> Vec -> Int
  | 0, _ => 0
  | n + 1, v => v 0 + (p : Int) * vl p n (fun i => v (i + 1))
def Cn (p n : Nat) (v : Vec) : Prop := ∀ i, i < n -> 0 <= v i /\ v i < p
def nm (p m : Nat) (v : Vec) : Nat := (vl p m (fun i => v i % (p : Int))).toNat
theorem Zs (p x i : Nat) : dv p x (i + 1) = dv p (x / p) i := by
 simp only [dv]; rw [Nat.pow_succ', <- Nat.div_div_eq_div_mul]
theorem YH (p x : Nat) : dv p x 0 = ((x % p : Nat) : Int) := by simp [dv]
theorem Cn.tl {p n : Nat} {v : Vec} (h : Cn p (n + 1) v) : Cn p n (fun i => v (i + 1)) := fun i hi => h (i + 1) (by omega)
theorem Jn0 {p : Nat} (hp : 0 < p) : ∀ {n : Nat} {v : Vec}, Cn p n v -> 0 <= vl p n v /\ vl p n v < ((p ^ n : Nat) : Int)
 | 0, v, _ => by simp [vl]
 | n + 1, v, h => by
  have ih := Jn0 hp h.tl; have h0 := h 0 (by omega); simp only [vl]; have h1 : (p : Int) * vl p n (fun i => v (i + 1)) <= p * (((p ^ n : Nat) : Int) - 1) := Int.mul_le_mul_of_nonneg_left (by omega) (by omega); have h2 : 0 <= (p : Int) * vl p n (fun i => v (i + 1)) := Int.mul_nonneg (by omega) ih.1; have h3 : ((p ^ (n + 1) : Nat) : Int) = p * ((p ^ n : Nat) : Int) := by rw [Nat.pow_succ']; push_cast; rfl
  have h4 : (p : Int) * (((p ^ n : Nat) : Int) - 1) = p * ((p ^ n : Nat) : Int) - p := by rw [Int.mul_sub, Int.mul_one]
  omega
theorem Jd8 {p : Nat} : ∀ {n : Nat} {u v : Vec}, (∀ i, i < n -> u i = v i) -> vl p n u = vl p n v
 | 0, _, _, _ => rfl
 | n + 1, u, v, h => by simp only [vl]; rw [h 0 (by omega), Jd8 (n := n) fun i hi => h (i + 1) (by omega)]
theorem Jti {p : Nat} (hp : 0 < p) : ∀ {n x : Nat}, x < p ^ n -> vl p n (dv p x) = x
 | 0, x, h => by simp at h; subst h; rfl
 | n + 1, x, h => by
  simp only [vl]; have : (fun i => dv p x (i + 1)) = dv p (x / p) := by funext i; exact Zs p x i
  rw [this, Jti hp (n := n) (by rw [Nat.div_lt_iff_lt_mul hp, <- Nat.pow_succ]; exact h), YH]; have := Nat.mod_add_div x p; have h2 : ((x % p + p * (x / p) : Nat) : Int) = (x : Int) := by rw [this]
  push_cast at h2 ⊢; exact h2
theorem dv_vl {p : Nat} (hp : 0 < p) : ∀ {n : Nat} {v : Vec}, Cn p n v -> ∀ i, i < n -> dv p (vl p n v).toNat i = v i
 | 0, _, _, i, hi => by omega
 | n + 1, v, h, i, hi => by
  have ih := Jn0 hp h.tl; have h0 := h 0 (by omega); obtain ⟨t, ht⟩ := Int.eq_ofNat_of_zero_le ih.1; obtain ⟨a, ha⟩ := Int.eq_ofNat_of_zero_le h0.1; have hv : (vl p (n + 1) v).toNat = a + p * t := by
   simp only [vl]; rw [ht, ha]; have : (a : Int) + (p : Int) * (t : Int) = ((a + p * t : Nat) : Int) := by push_cast; rfl
   rw [this]; rfl
  have hap : a < p := by have := h0.2; rw [ha] at this; omega
  rw [hv]; cases i with
  | zero => rw [YH, Nat.add_mul_mod_self_left, Nat.mod_eq_of_lt hap, ha]
  | succ i =>
   rw [Zs]; have h2 : (a + p * t) / p = t := by rw [Nat.add_mul_div_left _ _ hp, Nat.div_eq_of_lt hap, Nat.zero_add]
   have ih2 := dv_vl hp h.tl i (by omega); rw [ht] at ih2; rw [h2]; exact ih2
section
variable {p m : Nat}
theorem md_cn (hp : 0 < p) (v : Vec) (n : Nat) : Cn p n (fun i => v i % (p : Int)) := fun i _ => ⟨Int.emod_nonneg _ (by omega), Int.emod_lt_of_pos _ (by omega)⟩
theorem Jaw (hp : 0 < p) (v : Vec) : nm p m v < p ^ m := by
 have := Jn0 hp (md_cn hp v m); unfold nm; omega
theorem Jot (hp : 0 < p) (v : Vec) {i : Nat} (hi : i < m) : dv p (nm p m v) i = v i % (p : Int) := dv_vl hp (md_cn hp v m) i hi
theorem Jgg (hp : 0 < p) (x n : Nat) : Cn p n (dv p x) := fun i _ => by
 have := Nat.mod_lt (x / p ^ i) hp; simp only [dv]; omega
theorem Ju2 {x i : Nat} (hx : x < p ^ m) (hi : m <= i) : dv p x i = 0 := by
 rcases Nat.eq_zero_or_pos p with rfl | hp
 .simp only [dv]; cases m with
  | zero =>
   have : x = 0 := by simpa using hx
   subst this; simp
  | succ m => simp at hx
 .have : x / p ^ i = 0 := Nat.div_eq_of_lt (Nat.lt_of_lt_of_le hx (Nat.pow_le_pow_right hp hi)); simp [dv, this]
theorem Q7 {x : Nat} (hx : x < p ^ m) : Sup m (dv p x) := fun i hi => Ju2 hx hi
theorem Ja5 (x i : Nat) : dv p x i % (p : Int) = dv p x i := by
 simp only [dv]; rw [<- Int.natCast_emod, Nat.mod_mod]
theorem Jax (hp : 0 < p) {x : Nat} (hx : x < p ^ m) : nm p m (dv p x) = x := by
 unfold nm; rw [Jd8 (v := dv p x) fun i _ => Ja5 x i, Jti hp hx]; rfl
theorem Jul {u v : Vec} (h : ∀ i, i < m -> u i % (p : Int) = v i % (p : Int)) : nm p m u = nm p m v := by
 unfold nm; rw [Jd8 h]
theorem YR {u v : Vec} (h : vcg p u v) : nm p m u = nm p m v := Jul fun i _ => h i
theorem Jj6 (hp : 0 < p) {v : Vec} (hv : Sup m v) : vcg p (dv p (nm p m v)) v := fun i => by
 rcases Nat.lt_or_ge i m with h | h
 .rw [Jot hp v h, Int.emod_emod]
 .rw [Ju2 (Jaw hp v) h, hv i h]
theorem nm_eq (hp : 0 < p) {x : Nat} {v : Vec} (hx : x < p ^ m) (h : ∀ i, i < m -> dv p x i = v i % (p : Int)) : nm p m v = x := by
 rw [<- Jax hp hx]; exact Jul fun i hi => by rw [h i hi, Int.emod_emod]
end
def Qx (p m x y : Nat) : Nat := nm p m (JV (dv p x) (dv p y))
def ZR (p m x : Nat) : Nat := nm p m (vsm (-1) (dv p x))
def JF (p m : Nat) (c : Vec) (x y : Nat) : Nat := nm p m (Yf m c (dv p x) (dv p y))
section
variable {p m : Nat} {c : Vec}
theorem Jos (hp : 0 < p) (x y : Nat) : Qx p m x y < p ^ m := Jaw hp _
theorem Jdv (hp : 0 < p) (x : Nat) : ZR p m x < p ^ m := Jaw hp _
theorem Jhq (hp : 0 < p) (x y : Nat) : JF p m c x y < p ^ m := Jaw hp _
theorem Jhv (hp : 0 < p) {x y : Nat} (hx : x < p ^ m) (hy : y < p ^ m) : vcg p (dv p (Qx p m x y)) (JV (dv p x) (dv p y)) := Jj6 hp ((Q7 hx).add (Q7 hy))
theorem Jxo (hp : 0 < p) {x : Nat} (hx : x < p ^ m) : vcg p (dv p (ZR p m x)) (vsm (-1) (dv p x)) := Jj6 hp (Q7 hx).sm
theorem Jtf {a b : Vec} (ha : Sup m a) : Sup m (Yf m c a b) := Sup.opr ha m
theorem Jbx (hp : 0 < p) {x y : Nat} (hx : x < p ^ m) : vcg p (dv p (JF p m c x y)) (Yf m c (dv p x) (dv p y)) := Jj6 hp (Jtf (Q7 hx))
theorem Jqj (x y : Nat) : Qx p m x y = Qx p m y x := by unfold Qx; rw [Jf2]
theorem Jly (hp : 0 < p) {x y z : Nat} (hx : x < p ^ m) (hy : y < p ^ m) (hz : z < p ^ m) : Qx p m (Qx p m x y) z = Qx p m x (Qx p m y z) := by
 show nm p m (JV (dv p (Qx p m x y)) (dv p z)) = nm p m (JV (dv p x) (dv p (Qx p m y z))); rw [YR ((Jhv hp hx hy).add (vcg.refl _)), YR ((vcg.refl (p := p) (dv p x)).add (Jhv hp hy hz)), Zi]
theorem Je5 (p : Nat) : dv p 0 = vz := by funext i; simp [dv, vz]
theorem Jqi (hp : 0 < p) {x : Nat} (hx : x < p ^ m) : Qx p m x 0 = x := by unfold Qx; rw [Je5, Ja0, Jax hp hx]
theorem Je2 (hp : 0 < p) {x : Nat} (hx : x < p ^ m) : Qx p m x (ZR p m x) = 0 := by
 show nm p m (JV (dv p x) (dv p (ZR p m x))) = 0; rw [YR ((vcg.refl (p := p) (dv p x)).add (Jxo hp hx))]; have : JV (dv p x) (vsm (-1) (dv p x)) = vz := by funext i; simp only [JV, vsm, vz]; omega
 rw [this, <- Je5 p, Jax hp (by exact Nat.pow_pos hp)]
theorem Jcy {x y : Nat} (hx : x < p ^ m) (hy : y < p ^ m) : JF p m c x y = JF p m c y x := by
 unfold JF; rw [Z2 (Q7 hx) (Q7 hy)]
theorem Jlw (hp : 0 < p) {x y z : Nat} (hx : x < p ^ m) (hy : y < p ^ m) (hz : z < p ^ m) : JF p m c (JF p m c x y) z = JF p m c x (JF p m c y z) := by
 show nm p m (Yf m c (dv p (JF p m c x y)) (dv p z)) = nm p m (Yf m c (dv p x) (dv p (JF p m c y z))); rw [YR (vcg.mul (vcg.refl c) (Jbx hp hx) (vcg.refl _)), YR (vcg.mul (vcg.refl c) (vcg.refl (dv p x)) (Jbx hp hy)), Jkt (Q7 hx) (Q7 hy) (Q7 hz)]
theorem Jhu (hp : 2 <= p) : dv p 1 = e0 := by
 funext i; cases i with
 | zero => rw [YH, Nat.mod_eq_of_lt (by omega)]; rfl
 | succ i =>
  have : (1 : Nat) / p ^ (i + 1) = 0 := Nat.div_eq_of_lt (Nat.one_lt_pow (by omega) (by omega)); simp [dv, this, e0]
theorem Je1 (hp : 2 <= p) (hm : 0 < m) {x : Nat} (hx : x < p ^ m) : JF p m c x 1 = x := by
 unfold JF; rw [Jhu hp, Jtg hm, Jax (by omega) hx]
theorem Jqg (hp : 0 < p) {x : Nat} (hx : x < p ^ m) : JF p m c x 0 = 0 := by
 rw [Jcy hx (Nat.pow_pos hp)]; unfold JF; rw [Je5]; have : Yf m c vz (dv p x) = vz := opr_z ..; rw [this, <- Je5 p, Jax hp (Nat.pow_pos hp)]
theorem Juv (hp : 0 < p) {x y z : Nat} (hx : x < p ^ m) (hy : y < p ^ m) (hz : z < p ^ m) : JF p m c x (Qx p m y z) = Qx p m (JF p m c x y) (JF p m c x z) := by
 show nm p m (Yf m c (dv p x) (dv p (Qx p m y z))) = nm p m (JV (dv p (JF p m c x y)) (dv p (JF p m c x z))); rw [YR (vcg.mul (vcg.refl c) (vcg.refl (dv p x)) (Jhv hp hy hz)), YR ((Jbx (c := c) hp hx).add (Jbx hp hx)), Jth]
end
structure CR (q : Nat) (A M : Nat -> Nat -> Nat) : Prop where
  q2 : 2 <= q
  Al : ∀ x y, A x y < q
  Ml : ∀ x y, M x y < q
  Ac : ∀ x y, A x y = A y x
  Aa : ∀ {x y z}, x < q -> y < q -> z < q -> A (A x y) z = A x (A y z)
  Az : ∀ {x}, x < q -> A x 0 = x
  An : ∀ {x}, x < q -> ∃ y, y < q /\ A x y = 0
  Mc : ∀ {x y}, x < q -> y < q -> M x y = M y x
  Ma : ∀ {x y z}, x < q -> y < q -> z < q -> M (M x y) z = M x (M y z)
  M1 : ∀ {x}, x < q -> M x 1 = x
  M0 : ∀ {x}, x < q -> M x 0 = 0
  Md : ∀ {x y z}, x < q -> y < q -> z < q -> M x (A y z) = A (M x y) (M x z)
theorem Jnw {p m : Nat} (c : Vec) (hp : 2 <= p) (hm : 0 < m) : CR (p ^ m) (Qx p m) (JF p m c) where
 q2 := Nat.le_trans hp (by have := Nat.pow_le_pow_right (n := p) (by omega) hm; simpa using this)
 Al := Jos (by omega)
 Ml := Jhq (by omega)
 Ac := Jqj
 Aa := Jly (by omega)
 Az := Jqi (by omega)
 An := fun {x} hx => ⟨ZR p m x, Jdv (by omega) x, Je2 (by omega) hx⟩
 Mc := Jcy
 Ma := Jlw (by omega)
 M1 := Je1 hp hm
 M0 := Jqg (by omega)
 Md := Juv (by omega)
end Go.Proofs.YtjgpkljepgcekaaGreat
namespace Go.Proofs.YtjgpkljepgcekaaGreat
def pw (M : Nat -> Nat -> Nat) (g : Nat) : Nat -> Nat
  | 0 => 1
  | k + 1 => M (pw M g k) g
theorem php : ∀ (n : Nat) (f : Nat -> Nat), (∀ i, i < n + 1 -> f i < n) -> ∃ i j, i < j /\ j < n + 1 /\ f i = f j
 | 0, f, h => absurd (h 0 (by omega)) (by omega)
 | n + 1, f, h => by
  by_cases hc : ∃ i, i < n + 1 /\ f i = f (n + 1)
  .obtain ⟨i, hi, he⟩ := hc; exact ⟨i, n + 1, hi, by omega, he⟩
  .have hv := h (n + 1) (by omega); obtain ⟨i, j, hij, hj, he⟩ := php n (fun i => if f i = n then f (n + 1) else f i) (fun i hi => by
    have hne : f i ≠ f (n + 1) := fun e => hc ⟨i, hi, e⟩; have := h i (by omega); show (if f i = n then f (n + 1) else f i) < n; split
    .omega
    .omega)
   refine ⟨i, j, hij, by omega, ?_⟩; have hi1 : f i ≠ f (n + 1) := fun e => hc ⟨i, by omega, e⟩; have hj1 : f j ≠ f (n + 1) := fun e => hc ⟨j, by omega, e⟩; split at he <;> split at he <;> omega
theorem Jit {n : Nat} {f : Nat -> Nat} (hb : ∀ i, i < n -> f i < n) (hi : ∀ i j, i < j -> j < n -> f i ≠ f j) {y : Nat} (hy : y < n) : ∃ i, i < n /\ f i = y := by
 obtain ⟨i, j, hij, hj, he⟩ := php n (fun i => if i < n then f i else y) (fun i _ => by
  show (if i < n then f i else y) < n; split
  .rename_i h; exact hb i h
  .exact hy)
 rcases Nat.lt_or_ge j n with h | h
 .rw [if_pos h, if_pos (show i < n by omega)] at he; exact absurd he (hi i j hij h)
 .rw [if_neg (show ¬ j < n by omega), if_pos (show i < n by omega)] at he; exact ⟨i, by omega, he⟩
section
variable {q : Nat} {A M : Nat -> Nat -> Nat} (R : CR q A M)
include R
namespace CR
theorem one_lt : 1 < q := R.q2
theorem pos : 0 < q := by have := R.q2; omega
theorem I1 {x : Nat} (hx : x < q) : M 1 x = x := by rw [R.Mc R.one_lt hx, R.M1 hx]
theorem Z0 {x : Nat} (hx : x < q) : M 0 x = 0 := by rw [R.Mc R.pos hx, R.M0 hx]
theorem zA {x : Nat} (hx : x < q) : A 0 x = x := by rw [R.Ac, R.Az hx]
theorem pw_lt (g : Nat) : ∀ k, pw M g k < q
 | 0 => R.one_lt
 | k + 1 => R.Ml _ _
theorem pw_one {g : Nat} (hg : g < q) : pw M g 1 = g := R.I1 hg
theorem pw_add {g : Nat} (hg : g < q) (i : Nat) : ∀ j, pw M g (i + j) = M (pw M g i) (pw M g j)
 | 0 => (R.M1 (R.pw_lt g i)).symm
 | j + 1 => by
  show M (pw M g (i + j)) g = M (pw M g i) (M (pw M g j) g); rw [pw_add hg i j, R.Ma (R.pw_lt g i) (R.pw_lt g j) hg]
theorem pw_pw {g : Nat} (hg : g < q) (i : Nat) : ∀ j, pw M (pw M g i) j = pw M g (i * j)
 | 0 => rfl
 | j + 1 => by
  show M (pw M (pw M g i) j) (pw M g i) = _; rw [pw_pw hg i j, <- R.pw_add hg]; rfl
theorem one_pw : ∀ j, pw M 1 j = 1
 | 0 => rfl
 | j + 1 => by show M (pw M 1 j) 1 = 1; rw [one_pw j, R.M1 R.one_lt]
theorem zero_pw {n : Nat} (h : 0 < n) : pw M 0 n = 0 := by
 cases n with
 | zero => omega
 | succ n => exact R.M0 (R.pw_lt 0 n)
end CR
end
structure Gn (q : Nat) (M : Nat -> Nat -> Nat) (g : Nat) : Prop where
  lt : g < q
  one : pw M g (q - 1) = 1
  no : ∀ k, 0 < k -> k < q - 1 -> pw M g k ≠ 1
namespace Gn
variable {q g : Nat} {A M : Nat -> Nat -> Nat}
theorem per (G : Gn q M g) (R : CR q A M) (i k : Nat) : pw M g (i + (q - 1) * k) = pw M g i := by
 rw [R.pw_add G.lt, <- R.pw_pw G.lt, G.one, R.one_pw, R.M1 (R.pw_lt g i)]
theorem ne0 (G : Gn q M g) (R : CR q A M) (k : Nat) : pw M g k ≠ 0 := fun h => by
 have h1 := G.per R 0 (k + 1); have hq := R.q2; rw [Nat.zero_add] at h1; have : (q - 1) * (k + 1) = k + ((q - 1) * (k + 1) - k) := by
  have : k + 1 <= (q - 1) * (k + 1) := Nat.le_mul_of_pos_left _ (by omega); omega
 rw [this, R.pw_add G.lt, h, R.Z0 (R.pw_lt g _)] at h1; exact absurd h1 (by show ¬ (0 : Nat) = 1; omega)
theorem inj (G : Gn q M g) (R : CR q A M) {i j : Nat} (hij : i < j) (hj : j < q - 1) : pw M g i ≠ pw M g j := fun h => by
 have e1 : M (pw M g i) (pw M g (q - 1 - i)) = 1 := by rw [<- R.pw_add G.lt, show i + (q - 1 - i) = q - 1 by omega, G.one]
 have e2 : M (pw M g j) (pw M g (q - 1 - i)) = pw M g (j - i) := by
  rw [<- R.pw_add G.lt, show j + (q - 1 - i) = (j - i) + (q - 1) * 1 by omega, G.per R]
 rw [h] at e1; exact G.no (j - i) (by omega) (by omega) (e2.symm.trans e1)
theorem surj (G : Gn q M g) (R : CR q A M) {x : Nat} (h0 : 0 < x) (hx : x < q) : ∃ k, k < q - 1 /\ pw M g k = x := by
 obtain ⟨i, hi, he⟩ := Jit (n := q - 1) (f := fun k => pw M g k - 1) (fun i hi => by
  have := R.pw_lt g i; have := G.ne0 R i; show pw M g i - 1 < q - 1; omega) (fun i j hij hj he => by
  have h1 := G.ne0 R i; have h2 := G.ne0 R j; exact G.inj R hij hj (by omega)) (y := x - 1) (by omega)
 have := G.ne0 R i; exact ⟨i, hi, by omega⟩
open Classical in
noncomputable def lg (q : Nat) (M : Nat -> Nat -> Nat) (g x : Nat) : Nat := if h : ∃ k, k < q - 1 /\ pw M g k = x then Classical.choose h else 0
theorem xone (G : Gn q M g) (R : CR q A M) {x : Nat} (h0 : 0 < x) (hx : x < q) : pw M x (q - 1) = 1 := by
  obtain ⟨k, hk, rfl⟩ := G.surj R h0 hx
  rw [R.pw_pw G.lt, Nat.mul_comm, <- R.pw_pw G.lt, G.one, R.one_pw]
end Gn
end Go.Proofs.YtjgpkljepgcekaaGreat
namespace Go.Proofs.YtjgpkljepgcekaaGreat
structure IsLf (n d : Nat) : Prop where
  two : 2 <= d
  dvd : n % d = 0
  min : ∀ e, 2 <= e -> n % e = 0 -> d <= e
def Ju4 : Nat -> Nat -> Nat
  | _, 0 => 1
  | 0, _ + 1 => 0
  | n + 1, k + 1 => Ju4 n k + Ju4 n (k + 1)
section
variable {q : Nat} {A M : Nat -> Nat -> Nat} (R : CR q A M)
include R
namespace CR
theorem Aac {a b c : Nat} (ha : a < q) (hb : b < q) (hc : c < q) : A (A a b) c = A (A a c) b := by
 rw [R.Aa ha hb hc, R.Ac b c, <- R.Aa ha hc hb]
theorem A4 {a b c d : Nat} (ha : a < q) (hb : b < q) (hc : c < q) (hd : d < q) : A (A a b) (A c d) = A (A a c) (A b d) := by
 rw [<- R.Aa (R.Al a b) hc hd, R.Aac ha hb hc, R.Aa (R.Al a c) hb hd]
end CR
end
end Go.Proofs.YtjgpkljepgcekaaGreat
namespace Go.Proofs.YtjgpkljepgcekaaGreat
def hz (m : Nat) (c b y : Vec) (n : Nat) : Nat -> Vec
  | 0 => vz
  | k + 1 => JV (tX m c (hz m c b y n k)) (vsm (b (n - 1 - k)) y)
theorem Jur {m : Nat} {c b y : Vec} {n : Nat} : ∀ {k : Nat}, k <= n -> JV (tXn m c (n - k) (hz m c b y n k)) (opr m c b (n - k) y) = opr m c b n y
 | 0, _ => by simp only [hz, Nat.sub_zero]; rw [Jir, z_vadd]
 | k + 1, h => by
  have ih := Jur (m := m) (c := c) (b := b) (y := y) (n := n) (k := k) (by omega); obtain ⟨r, hr⟩ : ∃ r, n - k = r + 1 := ⟨n - k - 1, by omega⟩
  rw [show n - (k + 1) = r by omega]; rw [hr] at ih; rw [<- ih]; show JV (tXn m c r (JV (tX m c (hz m c b y n k)) (vsm (b (n - 1 - k)) y))) (opr m c b r y) = JV (tX m c (tXn m c r (hz m c b y n k))) (JV (opr m c b r y) (vsm (b r) (tXn m c r y))); rw [Jbn, Jcm, Jtu, show n - 1 - k = r by omega, Zi, Jf2 (vsm _ _)]
theorem hz_all (m : Nat) (c b y : Vec) (n : Nat) : hz m c b y n n = opr m c b n y := by
 have := Jur (m := m) (c := c) (b := b) (y := y) (n := n) (k := n) (Nat.le_refl n); rw [Nat.sub_self] at this; rw [<- this]; exact (Ja0 _).symm
def dgl (p : Nat) : Nat -> Nat -> List Nat
  | 0, _ => []
  | n + 1, x => (x % p) :: dgl p n (x / p)
theorem QT (p : Nat) : ∀ n x, (dgl p n x).length = n
 | 0, _ => rfl
 | n + 1, x => by simp [dgl, QT p n]
theorem Jc2 (p : Nat) : ∀ n x i, i < n -> (((dgl p n x).getD i 0 : Nat) : Int) = dv p x i
 | 0, _, i, h => by omega
 | n + 1, x, 0, _ => by rw [YH]; rfl
 | n + 1, x, i + 1, h => by
  show (((dgl p n (x / p)).getD i 0 : Nat) : Int) = _; rw [Jc2 p n (x / p) i (by omega), Zs]
@[reducible] noncomputable def hd0 (l : List Nat) : Nat := List.rec (motive := fun _ => Nat) 0 (fun x _ _ => x) l
@[reducible] noncomputable def tl0 (l : List Nat) : List Nat := List.rec (motive := fun _ => List Nat) [] (fun _ l _ => l) l
noncomputable def go (p a top : Nat) (cs : List Nat) : Nat -> List Nat -> List Nat -> List Nat :=
  List.rec (motive := fun _ => Nat -> List Nat -> List Nat -> List Nat) (fun _ _ _ => [])
    (fun c _ ih prev us ys => ((prev + (p - c) * top + a * hd0 ys) % p) :: ih (hd0 us) (tl0 us) (tl0 ys)) cs
noncomputable def tp (l : List Nat) : Nat -> Nat := List.rec (motive := fun _ => Nat -> Nat) (fun d => d) (fun x _ ih _ => ih x) l
noncomputable def Jlk (p : Nat) (cs ys gs : List Nat) : List Nat -> List Nat :=
  List.rec (motive := fun _ => List Nat -> List Nat) (fun acc => acc) (fun g _ ih acc => ih (go p g (tp acc 0) cs 0 acc ys)) gs
noncomputable def az (l : List Nat) : Bool := List.rec (motive := fun _ => Bool) true (fun x _ ih => bif Nat.beq x 0 then ih else false) l
noncomputable def is1 (l : List Nat) : Bool := List.rec (motive := fun _ => Bool) false (fun x t _ => bif Nat.beq x 1 then az t else false) l
noncomputable def run (p : Nat) (cs gs : List Nat) (n : Nat) : List Nat -> Bool :=
  Nat.rec (motive := fun _ => List Nat -> Bool) (fun y => is1 y) (fun _ ih y => bif is1 y then false else ih (Jlk p cs y gs y)) n
noncomputable def Jiv (p c : Nat) (al : List Nat) : List Nat -> List Nat :=
  List.rec (motive := fun _ => List Nat -> List Nat) (fun bs => bs) (fun a _ ih bs => ((hd0 bs + (p - a) * c) % p) :: ih (tl0 bs)) al
noncomputable def dvg (p : Nat) (low : List Nat) (k : Nat) : List Nat -> Bool :=
  Nat.rec (motive := fun _ => List Nat -> Bool) (fun r => az r) (fun _ ih r => ih (Jiv p (hd0 r) low (tl0 r))) k
noncomputable def nob (f : Nat -> Bool) (n : Nat) : Bool := Nat.rec (motive := fun _ => Bool) true (fun i ih => bif f i then false else ih) n
noncomputable def irrB (p m : Nat) (ml : List Nat) : Bool :=
  nob (fun d => !nob (fun w => dvg p (dgl p (d + 1) w).reverse (m - d) (1 :: ml.reverse)) (p ^ (d + 1))) (m / 2)
noncomputable def cand (p c : Nat) : List Nat := bif Nat.blt c p then [c] else bif Nat.blt c (p + p * p) then [(c - p) / p, (c - p) % p] else [(c - p - p * p) / (p * p), (c - p - p * p) / p % p, (c - p - p * p) % p]
noncomputable def gen1 (p m : Nat) (cs gs : List Nat) : Bool := run p cs gs (p ^ m - 2) (Jlk p cs (dgl p m 1) gs (dgl p m 1))
noncomputable def Jlv (p m : Nat) (cs : List Nat) : Bool := !nob (fun c => gen1 p m cs (cand p (p + p * p + p * p * p - 1 - c))) (p + p * p + p * p * p)
noncomputable def chk (p m lo n : Nat) : Bool := nob (fun v => bif irrB p m (dgl p m (lo + v)) then !Jlv p m (dgl p m (lo + v)) else false) n

theorem Jho (l : List Nat) : hd0 l = l.getD 0 0 := by cases l <;> rfl
theorem Jeg (l : List Nat) (i : Nat) : (tl0 l).getD i 0 = l.getD (i + 1) 0 := by cases l <;> rfl
theorem Jwp (l : List Nat) : (tl0 l).length = l.length - 1 := by cases l <;> simp [tl0]
theorem Jhp (p a top c : Nat) (cs : List Nat) (prev : Nat) (us ys : List Nat) : go p a top (c :: cs) prev us ys = ((prev + (p - c) * top + a * hd0 ys) % p) :: go p a top cs (hd0 us) (tl0 us) (tl0 ys) := rfl
theorem Jut (p a top : Nat) : ∀ (cs : List Nat) (prev : Nat) (us ys : List Nat), (go p a top cs prev us ys).length = cs.length
 | [], _, _, _ => rfl
 | c :: cs, prev, us, ys => by rw [Jhp, List.length_cons, Jut p a top cs, List.length_cons]
theorem go_at (p a top : Nat) : ∀ (cs : List Nat) (prev : Nat) (us ys : List Nat) (i : Nat), i < cs.length -> (go p a top cs prev us ys).getD i 0 = ((if i = 0 then prev else us.getD (i - 1) 0) + (p - cs.getD i 0) * top + a * ys.getD i 0) % p
 | [], _, _, _, i, h => by simp at h
 | c :: cs, prev, us, ys, 0, _ => by rw [Jhp, Jho]; rfl
 | c :: cs, prev, us, ys, i + 1, h => by
  rw [Jhp]; show (go p a top cs (hd0 us) (tl0 us) (tl0 ys)).getD i 0 = _; rw [go_at p a top cs _ _ _ i (by simpa using h)]; cases i with
  | zero => rw [if_pos rfl, if_neg (by omega), Jho, Jeg]; rfl
  | succ i => rw [if_neg (by omega), if_neg (by omega), Jeg, Jeg]; rfl
theorem tp_eq : ∀ (l : List Nat) (d : Nat), 0 < l.length -> tp l d = l.getD (l.length - 1) 0
 | [], _, h => by simp at h
 | [x], d, _ => rfl
 | x :: y :: l, d, _ => by
  show tp (y :: l) x = _; rw [tp_eq (y :: l) x (by simp)]; simp
def Rep (p m : Nat) (L : List Nat) (v : Vec) : Prop := L.length = m /\ ∀ i, i < m -> ((L.getD i 0 : Nat) : Int) = v i % (p : Int)
def hl (m : Nat) (c y : Vec) : List Nat -> Vec -> Vec
  | [], u => u
  | g :: gs, u => hl m c y gs (JV (tX m c u) (vsm g y))
theorem Rep.step {p m : Nat} {cs us ys : List Nat} {c u y : Vec} (hp : 0 < p) (hm : 0 < m) (hc : Rep p m cs c) (hu : Rep p m us u) (hy : Rep p m ys y) (g : Nat) :
  Rep p m (go p g (tp us 0) cs 0 us ys) (JV (tX m c u) (vsm g y)) := by
 refine ⟨by rw [Jut, hc.1], fun i hi => ?_⟩; rw [go_at _ _ _ _ _ _ _ _ (by rw [hc.1]; exact hi), tp_eq _ _ (by rw [hu.1]; exact hm), hu.1]; have h1 := hu.2 (m - 1) (by omega); have h2 := hc.2 i hi; have h3 := hy.2 i hi; have hlt : cs.getD i 0 <= p := by
  have := Int.emod_lt_of_pos (c i) (show (0 : Int) < p by omega); omega
 have e : (((if i = 0 then 0 else us.getD (i - 1) 0) : Nat) : Int) % p = (if i = 0 then (0 : Int) else u (i - 1)) % p := by
  split
  .rfl
  .rw [hu.2 (i - 1) (by omega), Int.emod_emod]
 simp only [JV, vsm, tX, if_pos hi]; generalize (if i = 0 then 0 else us.getD (i - 1) 0 : Nat) = A at *
 generalize (if i = 0 then (0 : Int) else u (i - 1)) = B at *
 generalize us.getD (m - 1) 0 = T at *
 generalize cs.getD i 0 = C at *
 generalize ys.getD i 0 = Y at *
 have hT : ((T : Nat) : Int) % p = u (m - 1) % p := by rw [h1, Int.emod_emod]
 have hC : ((C : Nat) : Int) % p = c i % p := by rw [h2, Int.emod_emod]
 have hY : ((Y : Nat) : Int) % p = y i % p := by rw [h3, Int.emod_emod]
 obtain ⟨D, hD⟩ : ∃ D, p = C + D := ⟨p - C, by omega⟩
 have hsub : p - C = D := by omega
 rw [hsub]; have hcast : ((A + D * T + g * Y : Nat) : Int) = ((A : Int) - C * T + g * Y) + p * T := by
  have : (p : Int) = C + D := by omega
  rw [this]; push_cast; rw [Int.add_mul]; omega
 rw [Int.natCast_emod, hcast, Int.add_mul_emod_self_left]; exact Jc4 (Jky e (Jcx hC hT)) (Jcx rfl hY)
theorem Jqd (p : Nat) (cs ys : List Nat) (g : Nat) (gs acc : List Nat) : Jlk p cs ys (g :: gs) acc = Jlk p cs ys gs (go p g (tp acc 0) cs 0 acc ys) := rfl
theorem Rep.mul {p m : Nat} {cs ys : List Nat} {c y : Vec} (hp : 0 < p) (hm : 0 < m) (hc : Rep p m cs c) (hy : Rep p m ys y) : ∀ {gs us : List Nat} {u : Vec}, Rep p m us u -> Rep p m (Jlk p cs ys gs us) (hl m c y gs u)
 | [], _, _, h => h
 | g :: gs, us, u, h => by rw [Jqd]; exact Rep.mul hp hm hc hy (Rep.step hp hm hc h hy g)
theorem Jlr {m : Nat} {c y : Vec} (hy : Sup m y) : ∀ {gs : List Nat} {u : Vec}, Sup m u -> Sup m (hl m c y gs u)
 | [], _, h => h
 | g :: gs, u, h => Jlr (gs := gs) (u := JV (tX m c u) (vsm g y)) hy (Sup.add Sup.tX hy.sm)
theorem Jus {m : Nat} {c y : Vec} (hy : Sup m y) : ∀ {gs : List Nat} {U : Vec}, hl m c y gs (opr m c y m U) = opr m c y m (hl m c e0 gs U)
  | [], _ => rfl
  | g :: gs, U => by
    show hl m c y gs (JV (tX m c (opr m c y m U)) (vsm g y)) = opr m c y m (hl m c e0 gs (JV (tX m c U) (vsm g e0)))
    rw [<- Jus hy, Joe, Jk7, Y3 hy]
    have := Jod m c y m 1 U
    rw [show tXn m c 1 U = tX m c U from rfl, show tXn m c 1 (opr m c y m U) = tX m c (opr m c y m U) from rfl] at this
    rw [this]
theorem Jht {m : Nat} (hm : 0 < m) : Sup m e0 := fun i hi => by simp [e0, show i ≠ 0 by omega]
theorem hl_mul {m : Nat} {c y : Vec} (hm : 0 < m) (hy : Sup m y) (gs : List Nat) : hl m c y gs y = Yf m c y (hl m c e0 gs e0) := by
 rw [Z2 hy (Jlr (Jht hm) (Jht hm))]; show _ = opr m c y m (hl m c e0 gs e0); rw [<- Jus hy, Y3 hy]
theorem Jwf {p m x : Nat} : Rep p m (dgl p m x) (dv p x) := ⟨QT p m x, fun i hi => by rw [Jc2 p m x i hi, Ja5]⟩
theorem Rep.cg {p m : Nat} {L : List Nat} {u v : Vec} (h : Rep p m L u) (hv : ∀ i, i < m -> u i % (p : Int) = v i % (p : Int)) : Rep p m L v := ⟨h.1, fun i hi => by rw [h.2 i hi, hv i hi]⟩
theorem Jxr (x : Nat) (l : List Nat) : az (x :: l) = bif Nat.beq x 0 then az l else false := rfl
theorem Jhz : ∀ l : List Nat, az l = true ↔ ∀ i, i < l.length -> l.getD i 0 = 0
 | [] => ⟨fun _ i h => by simp at h, fun _ => rfl⟩
 | x :: l => by
  rw [Jxr]; cases hx : Nat.beq x 0 with
  | true =>
   have := Nat.eq_of_beq_eq_true hx; subst this; rw [show (bif true then az l else false) = az l from rfl, Jhz l]; constructor
   .intro h i hi; cases i with
    | zero => rfl
    | succ i => exact h i (by simpa using hi)
   .intro h i hi; exact h (i + 1) (by simpa using hi)
  | false =>
   rw [show (bif false then az l else false) = false from rfl]; constructor
   .intro h; cases h
   .intro h; have := h 0 (by simp); simp only [List.getD_cons_zero] at this; subst this; cases hx
theorem Joq {p m x : Nat} {L : List Nat} (hp : 2 <= p) (hm : 0 < m) (hx : x < p ^ m) (h : Rep p m L (Go.Proofs.YtjgpkljepgcekaaGreat.dv p x)) : is1 L = true ↔ x = 1 := by
 obtain ⟨a, l, rfl⟩ : ∃ a l, L = a :: l := by
  cases L with
  | nil => have := h.1; simp at this; omega
  | cons a l => exact ⟨a, l, rfl⟩
 have hlen : l.length + 1 = m := h.1; have h0 := h.2 0 hm; have e : is1 (a :: l) = bif Nat.beq a 1 then az l else false := rfl; rw [e]; constructor
 .intro hb; cases ha : Nat.beq a 1 with
  | false => rw [ha] at hb; cases hb
  | true =>
   rw [ha] at hb; have hz := (Jhz l).1 hb; have ha1 := Nat.eq_of_beq_eq_true ha; subst ha1; rw [<- Jax (p := p) (m := m) (by omega) hx, <- Jax (p := p) (m := m) (x := 1) (by omega) (Nat.one_lt_pow (by omega) (by omega))]; refine Jul fun i hi => ?_; rw [Jhu hp, Ja5, <- Ja5, <- h.2 i hi]; cases i with
   | zero =>
    show (1 : Int) = e0 0 % p; simp only [e0, if_pos]; exact (Int.emod_eq_of_lt (by omega) (by omega)).symm
   | succ i =>
    show ((l.getD i 0 : Nat) : Int) = e0 (i + 1) % p; rw [hz i (by omega)]; simp [e0]
 .intro hx1; subst hx1; have ha : a = 1 := by
   have : ((a : Nat) : Int) = Go.Proofs.YtjgpkljepgcekaaGreat.dv p 1 0 % p := h0; rw [Ja5, Jhu hp] at this; simp [e0] at this; omega
  subst ha; show az l = true; refine (Jhz l).2 fun i hi => ?_; have : ((l.getD i 0 : Nat) : Int) = Go.Proofs.YtjgpkljepgcekaaGreat.dv p 1 (i + 1) % p := h.2 (i + 1) (by omega); rw [Ja5, Jhu hp] at this; simp only [e0] at this; rw [if_neg (by omega)] at this; exact Int.ofNat_eq_zero.1 this
def gel (p m : Nat) (c : Vec) (gs : List Nat) : Nat := nm p m (hl m c e0 gs e0)
theorem Jkm {p m x : Nat} {cs L gs : List Nat} {c : Vec} (hp : 2 <= p) (hm : 0 < m) (hx : x < p ^ m) (hc : Rep p m cs c) (h : Rep p m L (Go.Proofs.YtjgpkljepgcekaaGreat.dv p x)) : Rep p m (Jlk p cs L gs L) (Go.Proofs.YtjgpkljepgcekaaGreat.dv p (JF p m c x (gel p m c gs))) := by
 have h1 := Rep.mul (gs := gs) (by omega) hm hc h h; rw [hl_mul hm (Q7 hx)] at h1; refine h1.cg fun i hi => ?_; have hs := Jlr (c := c) (gs := gs) (Jht hm) (Jht hm); have e1 := Jbx (p := p) (m := m) (c := c) (by omega) hx (y := gel p m c gs); have e2 := vcg.mul (m := m) (vcg.refl (p := p) c) (vcg.refl (Go.Proofs.YtjgpkljepgcekaaGreat.dv p x)) (Jj6 (p := p) (m := m) (by omega) hs); exact ((e1.trans e2) i).symm
theorem Jt5 (p : Nat) (cs gs : List Nat) (n : Nat) (y : List Nat) : run p cs gs (n + 1) y = bif is1 y then false else run p cs gs n (Jlk p cs y gs y) := rfl
theorem Jt6 {p m : Nat} {cs gs : List Nat} {c : Vec} (hp : 2 <= p) (hm : 0 < m) (hc : Rep p m cs c) : ∀ {n : Nat} {L : List Nat} {x : Nat}, x < p ^ m -> Rep p m L (Go.Proofs.YtjgpkljepgcekaaGreat.dv p x) -> run p cs gs n L = true ->
  (∀ k, k < n -> JF p m c x (pw (JF p m c) (gel p m c gs) k) ≠ 1) /\ JF p m c x (pw (JF p m c) (gel p m c gs) n) = 1
 | 0, L, x, hx, h, hr => by
  refine ⟨fun k hk => by omega, ?_⟩; show JF p m c x 1 = 1; rw [Je1 hp hm hx]; exact (Joq hp hm hx h).1 hr
 | n + 1, L, x, hx, h, hr => by
  rw [Jt5] at hr; cases h1 : is1 L with
  | true => rw [h1] at hr; cases hr
  | false =>
   rw [h1] at hr; have R := Jnw (p := p) (m := m) c hp hm; have hg : gel p m c gs < p ^ m := Jaw (by omega) _; have ih := Jt6 hp hm hc (Jhq (by omega) x _) (Jkm (gs := gs) hp hm hx hc h) hr; have e : ∀ k, JF p m c (JF p m c x (gel p m c gs)) (pw (JF p m c) (gel p m c gs) k) = JF p m c x (pw (JF p m c) (gel p m c gs) (k + 1)) := fun k => by
    rw [R.Ma hx hg (R.pw_lt _ k), R.Mc hg (R.pw_lt _ k)]; rfl
   refine ⟨fun k hk => ?_, by rw [<- e]; exact ih.2⟩; cases k with
   | zero =>
    show JF p m c x 1 ≠ 1; rw [Je1 hp hm hx]; intro hx1; rw [(Joq hp hm hx h).2 hx1] at h1; cases h1
   | succ k => rw [<- e]; exact ih.1 k (by omega)
theorem Jxk {p m : Nat} {cs gs : List Nat} {c : Vec} (hp : 2 <= p) (hm : 0 < m) (hc : Rep p m cs c) (h : gen1 p m cs gs = true) : Gn (p ^ m) (JF p m c) (gel p m c gs) := by
 have R := Jnw (p := p) (m := m) c hp hm; have hg : gel p m c gs < p ^ m := Jaw (by omega) _; have h1 := Jkm (gs := gs) hp hm R.one_lt hc Jwf; rw [R.I1 hg] at h1; obtain ⟨h2, h3⟩ := Jt6 hp hm hc hg h1 h; have hq := R.q2; have e : ∀ k, JF p m c (gel p m c gs) (pw (JF p m c) (gel p m c gs) k) = pw (JF p m c) (gel p m c gs) (k + 1) := fun k => R.Mc hg (R.pw_lt _ k); refine ⟨hg, ?_, fun k h0 hk => ?_⟩
 .rw [show p ^ m - 1 = (p ^ m - 2) + 1 by omega, <- e]; exact h3
 .rw [show k = (k - 1) + 1 by omega, <- e]; exact h2 (k - 1) (by omega)
theorem Juk (f : Nat -> Bool) (n : Nat) : nob f (n + 1) = bif f n then false else nob f n := rfl
theorem Z9 (f : Nat -> Bool) : ∀ n, nob f n = true ↔ ∀ i, i < n -> f i = false
 | 0 => ⟨fun _ i h => by omega, fun _ => rfl⟩
 | n + 1 => by
  rw [Juk]; cases h : f n with
  | true =>
   refine ⟨fun h' => ?_, fun h' => ?_⟩
   .cases h'
   .rw [h' n (by omega)] at h; cases h
  | false =>
   show nob f n = true ↔ _; rw [Z9 f n]; refine ⟨fun h' i hi => ?_, fun h' i hi => h' i (by omega)⟩; rcases Nat.lt_or_ge i n with h1 | h1
   .exact h' i h1
   .rw [show i = n by omega]; exact h
theorem Jqb (f : Nat -> Bool) (n : Nat) (h : nob f n = false) : ∃ i, i < n /\ f i = true := by
 have hn : ¬ ∀ i, i < n -> f i = false := fun h' => by rw [(Z9 f n).2 h'] at h; cases h
 have := Classical.not_forall.1 hn; obtain ⟨i, hi⟩ := this; have h2 := Classical.not_imp.1 hi; exact ⟨i, h2.1, by cases hf : f i with | true => rfl | false => exact absurd hf h2.2⟩
theorem Jor {p m : Nat} {cs : List Nat} {c : Vec} (hp : 2 <= p) (hm : 0 < m) (hc : Rep p m cs c) (h : Jlv p m cs = true) : ∃ g, Gn (p ^ m) (JF p m c) g := by
 unfold Jlv at h; obtain ⟨i, _, hi⟩ := Jqb _ _ (by simpa using h); exact ⟨_, Jxk hp hm hc hi⟩
def rst (p d i : Nat) (l R : Vec) : Vec := fun j => if i <= j + d /\ j < i then (R j - l (j + d - i) * R i) % (p : Int) else R j
def rem (p d : Nat) (l R : Vec) (n : Nat) : Nat -> Vec
  | 0 => R
  | k + 1 => rst p d (n - 1 - k) l (rem p d l R n k)
def Dvd (p d : Nat) (l R : Vec) (n : Nat) : Prop := ∀ j, j < d -> rem p d l R n (n - d) j = 0
def Irr (p m : Nat) (c : Vec) : Prop := ∀ d, 0 < d -> 2 * d <= m -> ∀ w, w < p ^ d -> ¬ Dvd p d (dv p w) (fun i => if i = m then 1 else c i) (m + 1)
theorem Jcn (p c a : Nat) (al bs : List Nat) : Jiv p c (a :: al) bs = ((hd0 bs + (p - a) * c) % p) :: Jiv p c al (tl0 bs) := rfl
theorem Jiu (p c : Nat) : ∀ al bs : List Nat, al.length <= bs.length -> (Jiv p c al bs).length = bs.length
 | [], _, _ => rfl
 | a :: al, [], h => by simp at h
 | a :: al, b :: bs, h => by
  rw [Jcn, List.length_cons]; show (Jiv p c al bs).length + 1 = _; rw [Jiu p c al bs (by simpa using h)]; rfl
theorem Jn7 (p c : Nat) : ∀ (al bs : List Nat) (t : Nat), (Jiv p c al bs).getD t 0 = if t < al.length then (bs.getD t 0 + (p - al.getD t 0) * c) % p else bs.getD t 0
 | [], bs, t => by simp; rfl
 | a :: al, bs, 0 => by rw [Jcn, Jho]; simp
 | a :: al, bs, t + 1 => by
  rw [Jcn]; show (Jiv p c al (tl0 bs)).getD t 0 = _; rw [Jn7 p c al (tl0 bs) t, Jeg]; simp
theorem Ju0 (p : Nat) (low : List Nat) (k : Nat) (r : List Nat) : dvg p low (k + 1) r = dvg p low k (Jiv p (hd0 r) low (tl0 r)) := rfl
theorem Ju1 {p d n : Nat} {l R : Vec} {low : List Nat} (hp : 0 < p) (hl : low.length = d) (hlow : ∀ t, t < d -> ((low.getD t 0 : Nat) : Int) = l (d - 1 - t)) (hlp : ∀ t, t < d -> low.getD t 0 <= p) : ∀ (s k : Nat) (r : List Nat), s + k + d = n -> r.length = n - k ->
  (∀ t, t < n - k -> ((r.getD t 0 : Nat) : Int) = rem p d l R n k (n - 1 - k - t)) -> (dvg p low s r = true ↔ Dvd p d l R n)
 | 0, k, r, hs, hr, hv => by
  have : n - k = d := by omega
  rw [this] at hr hv; show az r = true ↔ _; rw [Jhz, hr]; have hk : n - d = k := by omega
  unfold Dvd; rw [hk]; constructor
  .intro h j hj; have := hv (d - 1 - j) (by omega); rw [h (d - 1 - j) (by omega), show n - 1 - k - (d - 1 - j) = j by omega] at this; exact this.symm
  .intro h t ht; have := hv t ht; rw [h (n - 1 - k - t) (by omega)] at this; exact Int.ofNat_eq_zero.1 this
 | s + 1, k, r, hs, hr, hv => by
  rw [Ju0]; have htl : (tl0 r).length = n - (k + 1) := by rw [Jwp, hr]; omega
  refine Ju1 hp hl hlow hlp s (k + 1) _ (by omega) (by rw [Jiu _ _ _ _ (by rw [htl, hl]; omega), htl]) fun t ht => ?_; rw [Jn7, hl, Jeg, Jho]; have h0 := hv 0 (by omega); rw [Nat.sub_zero] at h0; have h1 := hv (t + 1) (by omega); rw [show n - 1 - k - (t + 1) = n - 1 - (k + 1) - t by omega] at h1; show _ = rst p d (n - 1 - k) l (rem p d l R n k) (n - 1 - (k + 1) - t); unfold rst; by_cases htd : t < d
  .rw [if_pos htd, if_pos (by omega)]; have h2 := hlow t htd; have h3 := hlp t htd; rw [show n - 1 - (k + 1) - t + d - (n - 1 - k) = d - 1 - t by omega, <- h0, <- h1, <- h2]; generalize r.getD (t + 1) 0 = X at *
   generalize low.getD t 0 = Y at *
   generalize r.getD 0 0 = Z at *
   obtain ⟨D, hD⟩ : ∃ D, p = Y + D := ⟨p - Y, by omega⟩
   rw [show p - Y = D by omega, Int.natCast_emod]; have hcast : ((X + D * Z : Nat) : Int) = ((X : Int) - Y * Z) + p * Z := by
    have : (p : Int) = Y + D := by omega
    rw [this]; push_cast; rw [Int.add_mul]; omega
   rw [hcast, Int.add_mul_emod_self_left]
  .rw [if_neg htd, if_neg (by omega)]; exact h1
theorem Je0 (l : List Nat) (t : Nat) (h : t < l.length) : l.reverse.getD t 0 = l.getD (l.length - 1 - t) 0 := by
 rw [List.getD_eq_getElem?_getD, List.getD_eq_getElem?_getD, List.getElem?_reverse h]
theorem Je6 {p : Nat} (hp : 0 < p) (x i : Nat) : 0 <= dv p x i /\ dv p x i < p := Jgg hp x (i + 1) i (by omega)
theorem Jup {p m v : Nat} (hp : 0 < p) (hv : v < p ^ m) : irrB p m (dgl p m v) = true ↔ Irr p m (dv p v) := by
 have key : ∀ d w, 0 < d -> 2 * d <= m -> (dvg p (dgl p d w).reverse (m + 1 - d) (1 :: (dgl p m v).reverse) = true ↔ Dvd p d (dv p w) (fun i => if i = m then 1 else dv p v i) (m + 1)) := fun d w hd h2 => by
  refine Ju1 hp (by rw [List.length_reverse, QT]) (fun t ht => ?_) (fun t ht => ?_) (m + 1 - d) 0 _ (by omega) (by simp [QT]) fun t ht => ?_
  .rw [Je0 _ _ (by rw [QT]; exact ht), QT, Jc2 _ _ _ _ (by omega)]
  .rw [Je0 _ _ (by rw [QT]; exact ht), QT]; have := Jc2 p d w (d - 1 - t) (by omega); have := Je6 hp w (d - 1 - t); omega
  .show _ = if m + 1 - 1 - 0 - t = m then (1 : Int) else dv p v (m + 1 - 1 - 0 - t)
   cases t with
   | zero => rw [if_pos (by omega)]; rfl
   | succ t =>
    rw [if_neg (by omega)]; show (((dgl p m v).reverse.getD t 0 : Nat) : Int) = _; rw [Je0 _ _ (by rw [QT]; omega), QT, Jc2 _ _ _ _ (by omega), show m + 1 - 1 - 0 - (t + 1) = m - 1 - t by omega]
 unfold irrB; rw [Z9]; constructor
 .intro h d hd h2 w hw hD; have h3 := h (d - 1) (by omega); have h4 := (Z9 _ _).1 (by simpa using h3) w (by rw [show d - 1 + 1 = d by omega]; exact hw); rw [show d - 1 + 1 = d by omega, show m - (d - 1) = m + 1 - d by omega, (key d w hd h2).2 hD] at h4; cases h4
 .intro h d hd; have : nob (fun w => dvg p (dgl p (d + 1) w).reverse (m - d) (1 :: (dgl p m v).reverse)) (p ^ (d + 1)) = true := (Z9 _ _).2 fun w hw => by
   cases hb : dvg p (dgl p (d + 1) w).reverse (m - d) (1 :: (dgl p m v).reverse) with
   | false => rfl
   | true =>
    rw [show m - d = m + 1 - (d + 1) by omega] at hb; exact absurd ((key (d + 1) w (by omega) (by omega)).1 hb) (h (d + 1) (by omega) (by omega) w hw)
  rw [this]; rfl
theorem JR {p m lo n v : Nat} (hp : 2 <= p) (hm : 0 < m) (h : chk p m lo n = true) (h1 : lo <= v) (h2 : v < lo + n) (hv : v < p ^ m) (hi : Irr p m (dv p v)) : ∃ g, Gn (p ^ m) (JF p m (dv p v)) g := by
 have h3 := (Z9 _ _).1 h (v - lo) (by omega); simp only [show lo + (v - lo) = v by omega, (Jup (by omega) hv).2 hi, cond_true] at h3; exact Jor hp hm Jwf (by simpa using h3)
end Go.Proofs.YtjgpkljepgcekaaGreat
namespace Go.Proofs.YtjgpkljepgcekaaGreat
theorem Jq0 : chk 2 2 0 4 = true := by decide +kernel
theorem Jqz : chk 2 3 0 8 = true := by decide +kernel
theorem Jqy : chk 2 4 0 16 = true := by decide +kernel
theorem Jqx : chk 2 5 0 32 = true := by decide +kernel
theorem Jqw : chk 2 6 0 64 = true := by decide +kernel
theorem Jqv : chk 2 7 0 64 = true := by decide +kernel
theorem Jma : chk 2 7 64 64 = true := by decide +kernel
theorem Jqu : chk 2 8 0 24 = true := by decide +kernel
theorem Jl9 : chk 2 8 24 24 = true := by decide +kernel
theorem Jl8 : chk 2 8 48 24 = true := by decide +kernel
theorem Jl7 : chk 2 8 72 24 = true := by decide +kernel
theorem Jl6 : chk 2 8 96 24 = true := by decide +kernel
theorem Jj3 : chk 2 8 120 24 = true := by decide +kernel
theorem Jj2 : chk 2 8 144 24 = true := by decide +kernel
theorem Jj1 : chk 2 8 168 24 = true := by decide +kernel
theorem Jj0 : chk 2 8 192 24 = true := by decide +kernel
theorem Jjz : chk 2 8 216 24 = true := by decide +kernel
theorem Jjy : chk 2 8 240 16 = true := by decide +kernel
theorem Jqt : chk 3 2 0 9 = true := by decide +kernel
theorem Jqs : chk 3 3 0 27 = true := by decide +kernel
theorem Jqr : chk 3 4 0 64 = true := by decide +kernel
theorem Jl5 : chk 3 4 64 17 = true := by decide +kernel
theorem Jqq : chk 3 5 0 24 = true := by decide +kernel
theorem Jl4 : chk 3 5 24 24 = true := by decide +kernel
theorem Jl3 : chk 3 5 48 24 = true := by decide +kernel
theorem Jl2 : chk 3 5 72 24 = true := by decide +kernel
theorem Jl1 : chk 3 5 96 24 = true := by decide +kernel
theorem Jjx : chk 3 5 120 24 = true := by decide +kernel
theorem Jjw : chk 3 5 144 24 = true := by decide +kernel
theorem Jjv : chk 3 5 168 24 = true := by decide +kernel
theorem Jju : chk 3 5 192 24 = true := by decide +kernel
theorem Jjt : chk 3 5 216 24 = true := by decide +kernel
theorem Jjs : chk 3 5 240 3 = true := by decide +kernel
theorem Jqp : chk 5 2 0 25 = true := by decide +kernel
theorem Jqo : chk 5 3 0 64 = true := by decide +kernel
theorem Jl0 : chk 5 3 64 61 = true := by decide +kernel
theorem Jqn : chk 7 2 0 49 = true := by decide +kernel
theorem Jmc : chk 11 2 0 64 = true := by decide +kernel
theorem Jj5 : chk 11 2 64 57 = true := by decide +kernel
theorem Jmb : chk 13 2 0 64 = true := by decide +kernel
theorem Jj4 : chk 13 2 64 64 = true := by decide +kernel
theorem Jhw : chk 13 2 128 41 = true := by decide +kernel
theorem chk1_0 : ([2, 3, 5, 7, 11, 13, 17, 19, 23, 29, 31, 37, 41, 43, 47, 53, 59, 61] : List Nat).all (fun p => Jlv p 1 [0]) = true := by decide +kernel
theorem chk1_1 : ([67, 71, 73, 79, 83, 89, 97, 101, 103, 107, 109, 113, 127, 131, 137, 139, 149, 151] : List Nat).all (fun p => Jlv p 1 [0]) = true := by decide +kernel
theorem chk1_2 : ([157, 163, 167, 173, 179, 181, 191, 193, 197, 199, 211, 223, 227, 229, 233, 239, 241, 251] : List Nat).all (fun p => Jlv p 1 [0]) = true := by decide +kernel
theorem gx_2_2 {v : Nat} (hv : v < 2 ^ 2) (hI : Irr 2 2 (dv 2 v)) : ∃ g, Gn (2 ^ 2) (JF 2 2 (dv 2 v)) g := by
 have hv2 : v < 4 := hv; exact JR (by decide) (by decide) Jq0 (by omega) (by omega) hv hI
theorem gx_2_3 {v : Nat} (hv : v < 2 ^ 3) (hI : Irr 2 3 (dv 2 v)) : ∃ g, Gn (2 ^ 3) (JF 2 3 (dv 2 v)) g := by
 have hv2 : v < 8 := hv; exact JR (by decide) (by decide) Jqz (by omega) (by omega) hv hI
theorem gx_2_4 {v : Nat} (hv : v < 2 ^ 4) (hI : Irr 2 4 (dv 2 v)) : ∃ g, Gn (2 ^ 4) (JF 2 4 (dv 2 v)) g := by
 have hv2 : v < 16 := hv; exact JR (by decide) (by decide) Jqy (by omega) (by omega) hv hI
theorem gx_2_5 {v : Nat} (hv : v < 2 ^ 5) (hI : Irr 2 5 (dv 2 v)) : ∃ g, Gn (2 ^ 5) (JF 2 5 (dv 2 v)) g := by
 have hv2 : v < 32 := hv; exact JR (by decide) (by decide) Jqx (by omega) (by omega) hv hI
theorem gx_2_6 {v : Nat} (hv : v < 2 ^ 6) (hI : Irr 2 6 (dv 2 v)) : ∃ g, Gn (2 ^ 6) (JF 2 6 (dv 2 v)) g := by
 have hv2 : v < 64 := hv; exact JR (by decide) (by decide) Jqw (by omega) (by omega) hv hI
theorem gx_2_7 {v : Nat} (hv : v < 2 ^ 7) (hI : Irr 2 7 (dv 2 v)) : ∃ g, Gn (2 ^ 7) (JF 2 7 (dv 2 v)) g := by
 have hv2 : v < 128 := hv; rcases Nat.lt_or_ge v 64 with h | h
 .exact JR (by decide) (by decide) Jqv (by omega) (by omega) hv hI
 exact JR (by decide) (by decide) Jma (by omega) (by omega) hv hI
theorem gx_2_8 {v : Nat} (hv : v < 2 ^ 8) (hI : Irr 2 8 (dv 2 v)) : ∃ g, Gn (2 ^ 8) (JF 2 8 (dv 2 v)) g := by
 have hv2 : v < 256 := hv; rcases Nat.lt_or_ge v 24 with h | h
 .exact JR (by decide) (by decide) Jqu (by omega) (by omega) hv hI
 rcases Nat.lt_or_ge v 48 with h | h
 .exact JR (by decide) (by decide) Jl9 (by omega) (by omega) hv hI
 rcases Nat.lt_or_ge v 72 with h | h
 .exact JR (by decide) (by decide) Jl8 (by omega) (by omega) hv hI
 rcases Nat.lt_or_ge v 96 with h | h
 .exact JR (by decide) (by decide) Jl7 (by omega) (by omega) hv hI
 rcases Nat.lt_or_ge v 120 with h | h
 .exact JR (by decide) (by decide) Jl6 (by omega) (by omega) hv hI
 rcases Nat.lt_or_ge v 144 with h | h
 .exact JR (by decide) (by decide) Jj3 (by omega) (by omega) hv hI
 rcases Nat.lt_or_ge v 168 with h | h
 .exact JR (by decide) (by decide) Jj2 (by omega) (by omega) hv hI
 rcases Nat.lt_or_ge v 192 with h | h
 .exact JR (by decide) (by decide) Jj1 (by omega) (by omega) hv hI
 rcases Nat.lt_or_ge v 216 with h | h
 .exact JR (by decide) (by decide) Jj0 (by omega) (by omega) hv hI
 rcases Nat.lt_or_ge v 240 with h | h
 .exact JR (by decide) (by decide) Jjz (by omega) (by omega) hv hI
 exact JR (by decide) (by decide) Jjy (by omega) (by omega) hv hI
theorem gx_3_2 {v : Nat} (hv : v < 3 ^ 2) (hI : Irr 3 2 (dv 3 v)) : ∃ g, Gn (3 ^ 2) (JF 3 2 (dv 3 v)) g := by
 have hv2 : v < 9 := hv; exact JR (by decide) (by decide) Jqt (by omega) (by omega) hv hI
theorem gx_3_3 {v : Nat} (hv : v < 3 ^ 3) (hI : Irr 3 3 (dv 3 v)) : ∃ g, Gn (3 ^ 3) (JF 3 3 (dv 3 v)) g := by
 have hv2 : v < 27 := hv; exact JR (by decide) (by decide) Jqs (by omega) (by omega) hv hI
theorem gx_3_4 {v : Nat} (hv : v < 3 ^ 4) (hI : Irr 3 4 (dv 3 v)) : ∃ g, Gn (3 ^ 4) (JF 3 4 (dv 3 v)) g := by
 have hv2 : v < 81 := hv; rcases Nat.lt_or_ge v 64 with h | h
 .exact JR (by decide) (by decide) Jqr (by omega) (by omega) hv hI
 exact JR (by decide) (by decide) Jl5 (by omega) (by omega) hv hI
theorem gx_3_5 {v : Nat} (hv : v < 3 ^ 5) (hI : Irr 3 5 (dv 3 v)) : ∃ g, Gn (3 ^ 5) (JF 3 5 (dv 3 v)) g := by
 have hv2 : v < 243 := hv; rcases Nat.lt_or_ge v 24 with h | h
 .exact JR (by decide) (by decide) Jqq (by omega) (by omega) hv hI
 rcases Nat.lt_or_ge v 48 with h | h
 .exact JR (by decide) (by decide) Jl4 (by omega) (by omega) hv hI
 rcases Nat.lt_or_ge v 72 with h | h
 .exact JR (by decide) (by decide) Jl3 (by omega) (by omega) hv hI
 rcases Nat.lt_or_ge v 96 with h | h
 .exact JR (by decide) (by decide) Jl2 (by omega) (by omega) hv hI
 rcases Nat.lt_or_ge v 120 with h | h
 .exact JR (by decide) (by decide) Jl1 (by omega) (by omega) hv hI
 rcases Nat.lt_or_ge v 144 with h | h
 .exact JR (by decide) (by decide) Jjx (by omega) (by omega) hv hI
 rcases Nat.lt_or_ge v 168 with h | h
 .exact JR (by decide) (by decide) Jjw (by omega) (by omega) hv hI
 rcases Nat.lt_or_ge v 192 with h | h
 .exact JR (by decide) (by decide) Jjv (by omega) (by omega) hv hI
 rcases Nat.lt_or_ge v 216 with h | h
 .exact JR (by decide) (by decide) Jju (by omega) (by omega) hv hI
 rcases Nat.lt_or_ge v 240 with h | h
 .exact JR (by decide) (by decide) Jjt (by omega) (by omega) hv hI
 exact JR (by decide) (by decide) Jjs (by omega) (by omega) hv hI
theorem gx_5_2 {v : Nat} (hv : v < 5 ^ 2) (hI : Irr 5 2 (dv 5 v)) : ∃ g, Gn (5 ^ 2) (JF 5 2 (dv 5 v)) g := by
 have hv2 : v < 25 := hv; exact JR (by decide) (by decide) Jqp (by omega) (by omega) hv hI
theorem gx_5_3 {v : Nat} (hv : v < 5 ^ 3) (hI : Irr 5 3 (dv 5 v)) : ∃ g, Gn (5 ^ 3) (JF 5 3 (dv 5 v)) g := by
 have hv2 : v < 125 := hv; rcases Nat.lt_or_ge v 64 with h | h
 .exact JR (by decide) (by decide) Jqo (by omega) (by omega) hv hI
 exact JR (by decide) (by decide) Jl0 (by omega) (by omega) hv hI
theorem gx_7_2 {v : Nat} (hv : v < 7 ^ 2) (hI : Irr 7 2 (dv 7 v)) : ∃ g, Gn (7 ^ 2) (JF 7 2 (dv 7 v)) g := by
 have hv2 : v < 49 := hv; exact JR (by decide) (by decide) Jqn (by omega) (by omega) hv hI
theorem Jxj {v : Nat} (hv : v < 11 ^ 2) (hI : Irr 11 2 (dv 11 v)) : ∃ g, Gn (11 ^ 2) (JF 11 2 (dv 11 v)) g := by
 have hv2 : v < 121 := hv; rcases Nat.lt_or_ge v 64 with h | h
 .exact JR (by decide) (by decide) Jmc (by omega) (by omega) hv hI
 exact JR (by decide) (by decide) Jj5 (by omega) (by omega) hv hI
theorem Jxi {v : Nat} (hv : v < 13 ^ 2) (hI : Irr 13 2 (dv 13 v)) : ∃ g, Gn (13 ^ 2) (JF 13 2 (dv 13 v)) g := by
 have hv2 : v < 169 := hv; rcases Nat.lt_or_ge v 64 with h | h
 .exact JR (by decide) (by decide) Jmb (by omega) (by omega) hv hI
 rcases Nat.lt_or_ge v 128 with h | h
 .exact JR (by decide) (by decide) Jj4 (by omega) (by omega) hv hI
 exact JR (by decide) (by decide) Jhw (by omega) (by omega) hv hI
noncomputable def prL : List Nat := [2, 3, 5, 7, 11, 13, 17, 19, 23, 29, 31, 37, 41, 43, 47, 53, 59, 61, 67, 71, 73, 79, 83, 89, 97, 101, 103, 107, 109, 113, 127, 131, 137, 139, 149, 151, 157, 163, 167, 173, 179, 181, 191, 193, 197, 199, 211, 223, 227, 229, 233, 239, 241, 251]
theorem Jwy : (List.range 257).all (fun p => prL.contains p || Nat.blt p 2 || (List.range p).any (fun e => Nat.ble 2 e && Nat.beq (p % e) 0)) = true := by decide +kernel
theorem Jwx {p : Nat} (hp : IsLf p p) (h : p <= 256) : p ∈ prL := by
 have h1 := List.all_eq_true.1 Jwy p (List.mem_range.2 (by omega)); simp only [Bool.or_eq_true, List.contains_iff_mem, List.any_eq_true, List.mem_range, Bool.and_eq_true] at h1; rcases h1 with (h1 | h1) | ⟨e, he, h2, h3⟩
 .exact h1
 .have := hp.two; have := Nat.le_of_ble_eq_true h1; omega
 .have := hp.min e (Nat.le_of_ble_eq_true h2) (Nat.eq_of_beq_eq_true h3); omega
theorem gx_1 {p : Nat} (hp : IsLf p p) (h : p <= 256) : ∃ g, Gn (p ^ 1) (JF p 1 (dv p 0)) g := by
 have hm := Jwx hp h; have hg : Jlv p 1 [0] = true := by
  unfold prL at hm; rw [show ([2, 3, 5, 7, 11, 13, 17, 19, 23, 29, 31, 37, 41, 43, 47, 53, 59, 61, 67, 71, 73, 79, 83, 89, 97, 101, 103, 107, 109, 113, 127, 131, 137, 139, 149, 151, 157, 163, 167, 173, 179, 181, 191, 193, 197, 199, 211, 223, 227, 229, 233, 239, 241, 251] : List Nat) = ([2, 3, 5, 7, 11, 13, 17, 19, 23, 29, 31, 37, 41, 43, 47, 53, 59, 61] : List Nat) ++ ([67, 71, 73, 79, 83, 89, 97, 101, 103, 107, 109, 113, 127, 131, 137, 139, 149, 151] : List Nat) ++ ([157, 163, 167, 173, 179, 181, 191, 193, 197, 199, 211, 223, 227, 229, 233, 239, 241, 251] : List Nat) from rfl] at hm; simp only [List.mem_append] at hm; rcases hm with (h | h) | h
  .exact List.all_eq_true.1 chk1_0 p h
  .exact List.all_eq_true.1 chk1_1 p h
  .exact List.all_eq_true.1 chk1_2 p h
 refine Jor hp.two (by decide) ⟨rfl, fun i hi => ?_⟩ hg; rw [show i = 0 by omega, Je5]; simp [vz]
theorem Jud {p m : Nat} (hp : IsLf p p) (hm : 2 <= m) (hq : p ^ m <= 256) : (p = 2 /\ m = 2) ∨ (p = 2 /\ m = 3) ∨ (p = 2 /\ m = 4) ∨ (p = 2 /\ m = 5) ∨ (p = 2 /\ m = 6) ∨ (p = 2 /\ m = 7) ∨ (p = 2 /\ m = 8) ∨ (p = 3 /\ m = 2) ∨ (p = 3 /\ m = 3) ∨ (p = 3 /\ m = 4) ∨ (p = 3 /\ m = 5) ∨ (p = 5 /\ m = 2) ∨ (p = 5 /\ m = 3) ∨ (p = 7 /\ m = 2) ∨ (p = 11 /\ m = 2) ∨ (p = 13 /\ m = 2) := by
  have h2 := hp.two
  have hpow : ∀ k, k <= m -> p ^ k <= 256 := fun k hk => Nat.le_trans (Nat.pow_le_pow_right (by omega) hk) hq
  have hp2 : p <= 16 := by
    rcases Nat.lt_or_ge 16 p with h | h
    . have h1 := hpow 2 hm
      have h3 : 17 ^ 2 <= p ^ 2 := Nat.pow_le_pow_left h 2
      omega
    . exact h
  have hnd : ∀ e, 2 <= e -> e < p -> p % e ≠ 0 := fun e he hlt h0 => by have := hp.min e he h0; omega
  have hc : p = 2 ∨ p = 3 ∨ p = 5 ∨ p = 7 ∨ p = 11 ∨ p = 13 := by
    have h3 := hnd 2 (by omega)
    have h4 := hnd 3 (by omega)
    omega
  rcases hc with rfl | rfl | rfl | rfl | rfl | rfl
  . have : m <= 8 := by
      rcases Nat.lt_or_ge 8 m with h | h
      . have := hpow 9 h; omega
      . exact h
    omega
  . have : m <= 5 := by
      rcases Nat.lt_or_ge 5 m with h | h
      . have := hpow 6 h; omega
      . exact h
    omega
  . have : m <= 3 := by
      rcases Nat.lt_or_ge 3 m with h | h
      . have := hpow 4 h; omega
      . exact h
    omega
  . have : m <= 2 := by
      rcases Nat.lt_or_ge 2 m with h | h
      . have := hpow 3 h; omega
      . exact h
    omega
  . have : m <= 2 := by
      rcases Nat.lt_or_ge 2 m with h | h
      . have := hpow 3 h; omega
      . exact h
    omega
  . have : m <= 2 := by
      rcases Nat.lt_or_ge 2 m with h | h
      . have := hpow 3 h; omega
      . exact h
    omega
theorem gen_ex {p m v : Nat} (hp : IsLf p p) (hm : 0 < m) (hq : p ^ m <= 256) (hv : v < p ^ m) (h1 : m = 1 -> v = 0) (hI : Irr p m (dv p v)) : ∃ g, Gn (p ^ m) (JF p m (dv p v)) g := by
  rcases Nat.lt_or_ge m 2 with h | h
  . have : m = 1 := by omega
    subst this
    rw [h1 rfl]
    exact gx_1 hp (by simpa using hq)
  . rcases Jud hp h hq with ⟨rfl, rfl⟩ | ⟨rfl, rfl⟩ | ⟨rfl, rfl⟩ | ⟨rfl, rfl⟩ | ⟨rfl, rfl⟩ | ⟨rfl, rfl⟩ | ⟨rfl, rfl⟩ | ⟨rfl, rfl⟩ | ⟨rfl, rfl⟩ | ⟨rfl, rfl⟩ | ⟨rfl, rfl⟩ | ⟨rfl, rfl⟩ | ⟨rfl, rfl⟩ | ⟨rfl, rfl⟩ | ⟨rfl, rfl⟩ | ⟨rfl, rfl⟩
    . exact gx_2_2 hv hI
    . exact gx_2_3 hv hI
    . exact gx_2_4 hv hI
    . exact gx_2_5 hv hI
    . exact gx_2_6 hv hI
    . exact gx_2_7 hv hI
    . exact gx_2_8 hv hI
    . exact gx_3_2 hv hI
    . exact gx_3_3 hv hI
    . exact gx_3_4 hv hI
    . exact gx_3_5 hv hI
    . exact gx_5_2 hv hI
    . exact gx_5_3 hv hI
    . exact gx_7_2 hv hI
    . exact Jxj hv hI
    . exact Jxi hv hI
end Go.Proofs.YtjgpkljepgcekaaGreat
