/- What only this law leans on. -/
import Derived.Test.YtbdmnolcmeojbaaDlogTablesG5
namespace Go.Proofs.Ytbdmnolcmeojbaa
open Go.RowKit
abbrev XF3 := Try.func3
end Go.Proofs.Ytbdmnolcmeojbaa
set_option linter.unusedSimpArgs false
set_option linter.unusedVariables false
set_option maxRecDepth 4000
set_option maxHeartbeats 4000000
namespace Go.Proofs.Ytbdmnolcmeojbaa
open Go.RowKit
def Yc (Pd : Int) (Md : Int) (md : List Int) (bd : Int) (xd : Int) (yd : Int) (Q : Bool -> Prop) : Prop :=
  YA Pd Md md bd (fun q => match q with | (none, r15) => Q r15 | (some (b18, x19, x20, x21), _) => Qq b18 x19 x20 x21 xd (fun (r35, r36) => Ym Pd Md md bd xd (fun (r38, r39) => ((r35 ≠ r38) -> Q false) /\ (¬ (r35 ≠ r38) -> (((r36 ≠ r39) -> Q false) /\ (¬ (r36 ≠ r39) -> (((r39 = 0) -> (∃ (r49 : Int), Q8 b18 x19 x20 x21 r35 (fun q => q = r49) /\ (((r49 ≠ xd) -> Q false) /\ (¬ (r49 ≠ xd) -> (YW Pd Md md bd yd (fun (r59, r60) => Q8 b18 x19 x20 x21 yd (fun r62 => Q (decide (r62 = r59))))))))) /\ (¬ (r39 = 0) -> (YW Pd Md md bd yd (fun (r75, r76) => Q8 b18 x19 x20 x21 yd (fun r78 => Q (decide (r78 = r75)))))))))))))
theorem Jbh {w : World} {Q : Bool -> Prop} {Pd : Int} {Md : Int} {md : List Int} {bd : Int} {xd : Int} {yd : Int} {Bd : Nat} {Ad : Option Addr} {nd kd : Nat} (hd : Rd Bd w 1 Ad nd kd (is md)) (hv : Yc Pd Md md bd xd yd Q) :
    Calls Try.prog 3 #[.agg #[.int .i64 Pd, .int .i64 Md, .slice Ad nd kd, .int .i64 bd, .int .i64 xd, .int .i64 yd]] w <| Rt w fun v Qr => ∃ (r0 : Bool), v = .bool r0 /\ Qr = [] /\ Q r0 := by
  have hnd := hd.ilen
  subst hnd
  refine Jh <| Jf (vs := [.agg #[nI Pd, nI Md, nS Ad md kd, nI bd, nI xd, nI yd]]) [2] XF3 rfl rfl rfl rfl ?_
  have hS := Jm w
  unfold Yc at hv
  refine Jd 2 <| JC (z := 6) (cs := [nI Pd, nI Md, nS Ad md kd, nI bd, nI xd, nI yd]) hS rfl rfl rfl rfl ?_
  intro g11 w12 hS
  refine Jc 2 <| Jd 2 <| Jb (off := 0) QR rfl rfl <| J0 (cs := [nI Pd, nI Md, nS Ad md kd]) JJ JM rfl rfl (Yd (hS.rd (i := 0) rfl) 0 rfl) rfl <| Jb (off := 3) YU rfl rfl <| SL.lv 0 3 XU3 hS rfl rfl rfl ⟨rfl, rfl⟩ <| SL.call hS (Jan (hS.ro hd) hv) XF6 rfl XN6 rfl rfl ?_
  rintro _ _ w14 ⟨o, r15, hv, hK⟩ hGw14 hS
  cases o with
  | none =>
   obtain ⟨rfl, rfl⟩ := hK
   have hS := hS.n0
   refine Jc 8 <| Jd 5 <| JI rfl <| Jd 5 <| W.ret <| ⟨_, rfl, Fin.nil ?_⟩
   exact (hS.pick [] rfl).fin rfl ⟨r15, rfl, rfl, hv⟩
  | some t_ =>
   obtain ⟨b18, x19, x20, x21⟩ := t_
   obtain ⟨g17, A22, A23, A24, k25, k26, k27, m28, m29, m30, rfl, rfl⟩ := hK
   have hS := hS.n4
   refine Jc 8 <| Jd 5 <| J9 rfl <| Jj <| Jd 3 <| Jb (off := 4) QQ rfl rfl <| SL.lv 4 4 XU3 hS rfl rfl rfl ⟨rfl, rfl⟩ <| SL.call hS (QL (hS.rd (i := 1) rfl) (hS.rd (i := 2) rfl) (hS.rd (i := 3) rfl) (hS.rd (i := 0) rfl) hv) XF7 rfl XN7 rfl rfl ?_
   rintro _ _ w34 ⟨r35, r36, rfl, rfl, hv⟩ hGw34 hS
   have hS := hS.n0
   refine Jc 6 <| Jd 2 <| Jb (off := 0) QR rfl rfl <| J0 (cs := [nI Pd, nI Md, nS Ad md kd]) JJ JM rfl rfl (Yd (hS.rd (i := 4) rfl) 0 rfl) rfl <| Jb (off := 3) YU rfl rfl <| SL.lv 4 3 XU3 hS rfl rfl rfl ⟨rfl, rfl⟩ <| Jb (off := 4) QQ rfl rfl <| SL.lv 4 4 XU3 hS rfl rfl rfl ⟨rfl, rfl⟩ <| SL.call hS (Jbw (hS.ro hd) hv) XF8 rfl XN8 rfl rfl ?_
   rintro _ _ w37 ⟨r38, r39, rfl, rfl, hv⟩ hGw37 hS
   have hS := hS.n0
   refine Jc 6 <| Jd 6 <| Jl rfl rfl ?_
   by_cases g40 : r35 ≠ r38
   .have hv := hv.1 g40
    rw [decide_eq_true g40]
    refine Jc 5 <| JI rfl <| Jd 4 <| W.ret <| ⟨_, rfl, Fin.nil ?_⟩
    exact (hS.pick [] rfl).fin rfl ⟨false, rfl, rfl, hv⟩
   have hv := hv.2 g40
   rw [decide_eq_false g40]
   refine Jc 8 <| Jg rfl (fun c41 => ?_) (fun c41 => ?_)
   .have hv := hv.1 (oT c41)
    refine Jd 4 <| W.ret <| ⟨_, rfl, Fin.nil ?_⟩
    exact (hS.pick [] rfl).fin rfl ⟨false, rfl, rfl, hv⟩
   have hv := hv.2 (oF c41)
   refine Jj <| Js <| Js ?_
   by_cases g42 : r39 = 0
   .have hv := hv.1 g42
    obtain ⟨r49, o51, hv⟩ := hv
    refine Ju 10 [⟨[], [9], true⟩, ⟨[0], [], true⟩, ⟨[1], [], true⟩, ⟨[2], [3], true⟩, ⟨[2], [6], true⟩, ⟨[2, 3, 4], [], false⟩, ⟨[2], [1], true⟩, ⟨[2, 6], [], false⟩, ⟨[2, 5, 7], [], true⟩, ⟨[2, 8], [], true⟩] [(48, nI r39), (49, .bool true), (50, .bool true), (51, nP g17), (52, nI r35), (53, nI r49), (54, .pointer (some ((⟨g11, 0, none⟩ : Addr).add 4))), (55, nI xd), (56, .bool (decide (r49 ≠ xd))), (57, .bool (decide (r49 ≠ xd)))] Try.mixed (by kernel_rfl) rfl rfl ?_ ?_
    . refine ⟨oD, ?_, oD, oD, oD, ?_, fun _ _ _ => WL.take rfl <| Jb (off := 4) QQ rfl rfl <| Ja ⟨rfl, rfl⟩, og hS fun _ _ hS => WL.take rfl <| SL.lv 4 4 XU3 hS rfl rfl rfl ⟨rfl, rfl⟩ <| Ja ⟨rfl, Je _⟩, oD, oD, trivial⟩
      . intro w44 hE RR
        refine Ql rfl rfl rfl ?_; rw [decide_eq_true g42]
        exact Ja ⟨rfl, rfl⟩
      intro w48 hE RR
      have hS := hS.grow (hE rfl)
      refine WL.take rfl <| WL.call XF9 rfl XN9 rfl rfl (JB (Y9 (hS.rd (i := 1) rfl) (hS.rd (i := 2) rfl) (hS.rd (i := 3) rfl) (hS.rd (i := 0) rfl) o51)) ?_
      rintro _ w50 ⟨_, hGw50, hRww50, hNww50, r49q, rfl, rfl, he⟩
      subst he
      exact Ja ⟨rfl, hGw50⟩
    intro w56 hT
    have hS := hS.grow hT
    refine JQ <| Jg rfl (fun c57 => ?_) (fun c57 => ?_)
    .have hv := hv.1 (oT c57)
     refine Jd 4 <| W.ret <| ⟨_, rfl, Fin.nil ?_⟩
     exact (hS.pick [] rfl).fin rfl ⟨false, rfl, rfl, hv⟩
    have hv := hv.2 (oF c57)
    refine Jj <| Jd 2 <| Jb (off := 0) QR rfl rfl <| J0 (cs := [nI Pd, nI Md, nS Ad md kd]) JJ JM rfl rfl (Yd (hS.rd (i := 4) rfl) 0 rfl) rfl <| Jb (off := 3) YU rfl rfl <| SL.lv 4 3 XU3 hS rfl rfl rfl ⟨rfl, rfl⟩ <| Jb (off := 5) Q7 rfl rfl <| SL.lv 4 5 XU3 hS rfl rfl rfl ⟨rfl, rfl⟩ <| SL.call hS (Jcq (hS.ro hd) hv) XF10 rfl XN10 rfl rfl ?_
    rintro _ _ w58 ⟨r59, r60, rfl, rfl, hv⟩ hGw58 hS
    have hS := hS.n0
    refine Jc 6 <| Jd 3 <| Jb (off := 5) Q7 rfl rfl <| SL.lv 4 5 XU3 hS rfl rfl rfl ⟨rfl, rfl⟩ <| SL.call hS (Y9 (hS.rd (i := 1) rfl) (hS.rd (i := 2) rfl) (hS.rd (i := 3) rfl) (hS.rd (i := 0) rfl) hv) XF9 rfl XN9 rfl rfl ?_
    rintro _ _ w61 ⟨r62, rfl, rfl, hv⟩ hGw61 hS
    have hS := hS.n0
    refine Jc 4 <| W.ret <| ⟨_, rfl, Fin.nil ?_⟩
    exact (hS.pick [] rfl).fin rfl ⟨(decide (r62 = r59)), rfl, rfl, hv⟩
   have hv := hv.2 g42
   refine Ju 10 [⟨[], [9], true⟩, ⟨[0], [], true⟩, ⟨[1], [], true⟩, ⟨[2], [3], true⟩, ⟨[2], [6], true⟩, ⟨[2, 3, 4], [], false⟩, ⟨[2], [1], true⟩, ⟨[2, 6], [], false⟩, ⟨[2, 5, 7], [], true⟩, ⟨[2, 8], [], true⟩] [(48, nI r39), (49, .bool false), (50, .bool false), (51, undef), (52, undef), (53, undef), (54, undef), (55, undef), (56, undef), (57, .bool false)] Try.mixed (by kernel_rfl) rfl rfl ?_ ?_
   . refine ⟨oD, ?_, oD, oD, oD, oD, oD, oD, oD, oD, trivial⟩
     intro w64 hE RR
     refine Ql rfl rfl rfl ?_; rw [decide_eq_false g42]
     exact Ja ⟨rfl, rfl⟩
   intro w73 hT
   have hS := hS.grow hT
   refine JQ <| J9 rfl <| Jj <| Jd 2 <| Jb (off := 0) QR rfl rfl <| J0 (cs := [nI Pd, nI Md, nS Ad md kd]) JJ JM rfl rfl (Yd (hS.rd (i := 4) rfl) 0 rfl) rfl <| Jb (off := 3) YU rfl rfl <| SL.lv 4 3 XU3 hS rfl rfl rfl ⟨rfl, rfl⟩ <| Jb (off := 5) Q7 rfl rfl <| SL.lv 4 5 XU3 hS rfl rfl rfl ⟨rfl, rfl⟩ <| SL.call hS (Jcq (hS.ro hd) hv) XF10 rfl XN10 rfl rfl ?_
   rintro _ _ w74 ⟨r75, r76, rfl, rfl, hv⟩ hGw74 hS
   have hS := hS.n0
   refine Jc 6 <| Jd 3 <| Jb (off := 5) Q7 rfl rfl <| SL.lv 4 5 XU3 hS rfl rfl rfl ⟨rfl, rfl⟩ <| SL.call hS (Y9 (hS.rd (i := 1) rfl) (hS.rd (i := 2) rfl) (hS.rd (i := 3) rfl) (hS.rd (i := 0) rfl) hv) XF9 rfl XN9 rfl rfl ?_
   rintro _ _ w77 ⟨r78, rfl, rfl, hv⟩ hGw77 hS
   have hS := hS.n0
   refine Jc 4 <| W.ret <| ⟨_, rfl, Fin.nil ?_⟩
   exact (hS.pick [] rfl).fin rfl ⟨(decide (r78 = r75)), rfl, rfl, hv⟩
end Go.Proofs.Ytbdmnolcmeojbaa
set_option linter.unusedVariables false
set_option linter.unusedSimpArgs false
namespace Go.Proofs.Ytbdmnolcmeojbaa
/-! ### tables of logarithms: the laws -/
theorem Jav (P M : Int) (mf : List Int) (b x y : Int) (hy : I64 y) : Yc P M mf b x y (fun b => b = true) := by
  refine Jb9 rfl fun F p m v g E L Z K hF hP hT => ?_
  have R := hF.ring
  have hq := hF.q
  have hq2 := R.q2
  have G := hP.gn R
  have eN : ((p ^ m : Nat) : Int) - 1 = ((p ^ m - 1 : Nat) : Int) := by omega
  have ne : ∀ {A B : Prop} {a : Int}, B -> (a ≠ a -> A) /\ (¬ (a ≠ a) -> B) := fun h => ⟨fun c => absurd rfl c, fun _ => h⟩
  have last : YW P M mf b y (fun q => match q with | (r75, r76) => Q8 b E L Z y (fun r78 => decide (r78 = r75) = true)) := by
    refine Je3 hF (fun c => absurd c hP.1) (fun _ => ?_) hy
    rw [eN]
    exact Jaa hT hq2 hq (decide_eq_true rfl)
  refine QD hT (fun hx => Y3 hF hP (fun hz => ne (ne ⟨fun c => absurd c (by decide), fun _ => last⟩)) fun hz => absurd (Q4 hx) hz) fun x' ex hx0 hxq => Y3 hF hP (fun hz => ?_) fun hz => ?_
  . subst ex; rw [JZ hxq] at hz; omega
  . subst ex
    rw [JZ hxq]
    obtain ⟨h1, h2⟩ := G.lg_spec R hx0 hxq
    refine ne (ne ⟨fun _ => ⟨(x' : Int), Jaa hT hq2 hq ?_, ne ?_⟩, fun c => absurd rfl c⟩)
    . rw [Y7 R G, h2]
    . refine Je3 hF (fun c => absurd c hP.1) (fun _ => ?_) hy
      rw [eN]
      exact Jaa hT hq2 hq (decide_eq_true rfl)
end Go.Proofs.Ytbdmnolcmeojbaa
