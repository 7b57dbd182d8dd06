/- Contracts of functions of the program, and what they lean on: D24, D22, D19, Fa, Fb, Fg, Fp, Fk, Fc, V1, V2. -/
import Derived.Test.YtngdhnijkgjhcaaGreatSpaceSumsG8
set_option linter.unusedSimpArgs false
set_option linter.unusedVariables false
set_option maxRecDepth 4000
set_option maxHeartbeats 4000000
namespace Go.Proofs.YtngdhnijkgjhcaaGreat
open Go.RowKit
def Jdq (Pf : Int) (Mf : Int) (mf : List Int) (Ca : Int) (a : List (List Int)) (Cb : Int) (b : List (List Int)) (Q : Int × List (List Int) × Int -> Prop) : Prop :=
  Jdo Pf Mf mf Ca a Cb b (fun r20 => ((r20 ≠ (0 : Int)) -> (Q ((0 : Int), ([] : List (List Int)), r20))) /\ (¬ (r20 ≠ (0 : Int)) -> (∃ J29 : List (List Int) -> Prop, (∃ (x34 : List (List Int)), Jds a (fun q => q = x34) /\ ((((x34.length : Nat) + (b.length : Nat) : Int) * 24 <= 140737488355328) /\ (Zk Pf Mf mf (x34 ++ b) Ca (fun q => match q with | (x55, x56) => J29 x55)))) /\ ∀ (x24 : List (List Int)), (J29 x24 -> (Q (Ca, x24, (0 : Int)))))))
theorem Jx3 {w : World} {Q : Int × List (List Int) × Int -> Prop} {Pf : Int} {Mf : Int} {mf : List Int} {Ca : Int} {a : List (List Int)} {Cb : Int} {b : List (List Int)} {Bf : Nat} {Af : Option Addr} {nf kf : Nat} (hf : Rd Bf w 1 Af nf kf (is mf)) {Aa : Option Addr} {na ka : Nat} (ha : Rl w Aa na ka a) {Ab : Option Addr} {nb kb : Nat} (hb : Rl w Ab nb kb b) (hv : Jdq Pf Mf mf Ca a Cb b Q) :
   Calls Tryz.prog 14 #[.agg #[.int .i64 Pf, .int .i64 Mf, .slice Af nf kf], .agg #[.int .i64 Ca, .slice Aa na ka], .agg #[.int .i64 Cb, .slice Ab nb kb]] w fun e w' => ∃ v Qr, e = .returned v /\ w.grownBy w' none /\ Rows w.heap.size none w' Qr /\ News w.heap.size Qr /\ ∃ (c0 : Int) (r0 : List (List Int)) (r1 : Int) (A0 : Option Addr) (k0 : Nat) (hs0 : Hs), v = .tuple #[.agg #[.int .i64 c0, .slice A0 r0.length k0], .int .i64 r1] /\ Qr = [mx 22 3 A0 r0.length k0 hs0 r0] /\ Q (c0, r0, r1) := by
 have hnf := hf.ilen; subst hnf; have hna := ha.len; subst hna; obtain ⟨hsa, hHa⟩ := ha.heads; have hnb := hb.len; subst hnb; obtain ⟨hsb, hHb⟩ := hb.heads; refine Jk <| J6 (vs := [.agg #[nI Pf, nI Mf, nS Af mf kf], .agg #[nI Ca, nS Aa a ka], .agg #[nI Cb, nS Ab b kb]]) [.cell 6 27, .tmp 7] XF14 rfl rfl rfl rfl ?_; have hS := Jr w; unfold Jdq at hv; refine Je 2 <| Jz (z := 3) (cs := [nI Pf, nI Mf, nS Af mf kf]) hS rfl rfl rfl rfl ?_; intro g11 w12 hS; refine Jz (z := 2) (cs := [nI Ca, nS Aa a ka]) hS rfl rfl rfl rfl ?_; intro g13 w14 hS; refine Jz (z := 2) (cs := [nI Cb, nS Ab b kb]) hS rfl rfl rfl rfl ?_; intro g15 w16 hS; refine SL.alloc (cs := [nI 0, .slice none 0 0]) hS Ju rfl rfl ?_; intro g17 w18 hS; refine Jb 2 <| Je 2 <| Jg (cs := [nI Pf, nI Mf, nS Af mf kf]) JO JP rfl rfl (Jc (hS.own (i := 3) rfl)) rfl <| Jg (cs := [nI Ca, nS Aa a ka]) Ju JL rfl rfl (Jc (hS.own (i := 2) rfl)) rfl <| Jg (cs := [nI Cb, nS Ab b kb]) Ju JL rfl rfl (Jc (hS.own (i := 1) rfl)) rfl <| SL.call hS (Jlh (hS.ro hf) (RlH.rl (RlH.ext hHa hS.ext)) (RlH.rl (RlH.ext hHb hS.ext)) hv) XF47 rfl XN47 rfl rfl ?_; rintro _ _ w19 ⟨r20, rfl, rfl, hv⟩ hGw19 hS; have hS := hS.n0; refine Jb 2 <| Je 6 <| Ji rfl (fun c21 => ?_) (fun c21 => ?_)
 .have hv := hv.1 (oT c21); refine Je 2 <| JQ (cells := #[nI 0, .slice none 0 0]) QP rfl rfl rfl <| Jp rfl rfl <| Js (cs := [nI 0, .slice none 0 0]) 0 hS rfl Ju rfl rfl rfl rfl rfl ?_; intro w22 hS; refine Jb 2 <| W.ret ?_; have hS := hS.mxNil 22 3; have hm0 := hS.mxlen (i := 0) rfl; have hS := hS.relenMx (i := 0) rfl hm0.symm
  change St _ _ _ _ [_, _, _, _, _] at hS
  repeat with_reducible first | refine blk.ret ?_ | refine exits.retI ?_
  refine endC.mk ⟨[.agg #[nI 0, .slice none 0 0], nI r20], ⟨_, _, _, rfl, rfl, JE (cs := [nI 0, .slice none 0 0]) Ju JL rfl (Jc (hS.own (i := 1) rfl)), ⟨_, _, rfl, rfl, rfl⟩⟩, ?_⟩; exact ⟨_, hS.ext, (hS.pick [0] rfl).rows, JT (hS.pick [0] rfl).rows rfl, ⟨(0 : Int), ([] : List (List Int)), r20, none, 0, (fun _ => (none, 0)), (by (try unfold nS); first | (rw [show (Value.slice none 0 0) = Value.slice none (([] : List (List Int))).length 0 from sm0 hm0.symm]; done) | (rw [show (Value.slice none 0 0) = Value.slice none (([] : List (List Int))).length 0 from sm0 hm0.symm]; rfl)), rfl, hv⟩⟩
 have hv := hv.2 (oF c21); refine Jn <| Jy ?_; obtain ⟨J29, hv, hk66⟩ := hv; refine Qx (σ := List (List Int) × Option Addr × Nat × Hs) (fun q w1 => match q with | (x24, A25, k26, hs27) => J29 x24 /\ St TT w none w1 [mx 22 3 A25 x24.length k26 hs27 x24, .row 27 2 (nA g17) 1 1 [nI 0, .slice none 0 0], .row 27 2 (nA g15) 1 1 [nI Cb, nS Ab b kb], .row 27 2 (nA g13) 1 1 [nI Ca, nS Aa a ka], .row 24 3 (nA g11) 1 1 [nI Pf, nI Mf, nS Af mf kf]]) (fun q => match q with | (x24, A25, k26, hs27) => [(4, nP g13), (6, nP g17), (7, nI 0), (9, nS A25 x24 k26)]) ?_ ?_
 .obtain ⟨x34, o41, hv⟩ := hv; have hS0 := hS; refine Jz5 9 [0, 6, 7, 8] 6 (fun iA => [false, false, false, true, false, false, false, false, false].getD iA false) (fun _ => none) (fun _ v u => u = v) [⟨[], [3], false⟩, ⟨[], [4], true⟩, ⟨[1], [], false⟩, ⟨[2], [], false⟩, ⟨[], [5], true⟩, ⟨[4], [], false⟩, ⟨[], [], true⟩, ⟨[], [4], true⟩, ⟨[7], [], false⟩] [.k 20 (.agg #[nI Pf, nI Mf, nS Af mf kf]), .k 21 (.pointer (some ((⟨g13, 0, none⟩ : Addr).add 1))), .k 22 (nS Aa a ka), eX w19 23 22 3 x34.length (fun A35_3 k36_3 hs37_3 => nS A35_3 x34 k36_3) x34, .k 24 (.pointer (some ((⟨g15, 0, none⟩ : Addr).add 1))), .k 25 (nS Ab b kb), .k 26 (nI 0), .k 27 (nP g13), .k 28 (nI Ca)] (fun iD => [vbD, vbD, vbD, rch, vbD, vbD, vbD, vbD, vbD].getD iD vbD) 6 [true, true, true, true, true, true, true, true, true, false, false, false, false, false, false] (fun L' w' => ∃ (A49 : Option Addr) (k50 : Nat) (hs37 : Hs), St TT w none w' [Rw.row 22 1 A49 (x34 ++ b).length k50 (JM (Y3 x34.length hs37 hsb) (x34 ++ b)), grp (inr 3 hs37 x34), .row 27 2 (nA g17) 1 1 [nI 0, .slice none 0 0], .row 27 2 (nA g15) 1 1 [nI Cb, nS Ab b kb], .row 27 2 (nA g13) 1 1 [nI Ca, nS Aa a ka], .row 24 3 (nA g11) 1 1 [nI Pf, nI Mf, nS Af mf kf]] /\ sub [(20, .agg #[nI Pf, nI Mf, nS Af mf kf]), (26, nS A49 (x34 ++ b) k50), (28, nI Ca), (4, nP g13), (6, nP g17), (7, nI 0)] L') Jv (by kernel_rfl) rfl rfl ?_ ?_ ?_ ?_
  . intro jD vD w1D w2D hvD hgD gD hD_; rcases jD with _ | _ | _ | _ | _ | _ | _ | _ | _ | jD
    any_goals exact hD_
    obtain ⟨A35_3, k36_3, hs37_3, rfl, hR40_3⟩ := hvD; exact QI hR40_3 hgD hD_
  . refine ⟨fun _ hE _ => have hS := hS.grow (hE rfl); Jg (cs := [nI Pf, nI Mf, nS Af mf kf]) JO JP rfl rfl (Jc (hS.own (i := 3) rfl)) rfl <| Ja ⟨rfl, Jf _⟩, fun _ _ _ => Jd (off := 1) JN rfl rfl <| Ja ⟨rfl, rfl⟩, fun _ hE _ => have hS := hS.grow (hE rfl); Jo 2 1 Jt hS rfl rfl rfl ⟨rfl, rfl⟩ <| Ja ⟨rfl, Jf _⟩, ?_, fun _ _ _ => Jd (off := 1) JN rfl rfl <| Ja ⟨rfl, rfl⟩, fun _ hE _ => have hS := hS.grow (hE rfl); Jo 1 1 Jt hS rfl rfl rfl ⟨rfl, rfl⟩ <| Ja ⟨rfl, Jf _⟩, trivial, fun _ _ _ => Jd (off := 0) JK rfl rfl <| Ja ⟨rfl, rfl⟩, fun _ hE _ => have hS := hS.grow (hE rfl); Jo 2 0 XU3 hS rfl rfl rfl ⟨rfl, rfl⟩ <| Ja ⟨rfl, Jf _⟩, trivial⟩; intro w33 hE; have hE := hE rfl; have hS := hS.grow hE; intro RR; refine WL.call XF49 rfl XN49 rfl rfl (JI (Jlk (RlH.rl (RlH.ext hHa hS.ext)) o41)) ?_; rintro _ w39 ⟨_, hGw39, hRww39, hNww39, x34q, A35, k36, hs37, rfl, rfl, he⟩; subst he; have hR40 := hRww39.mxbase hE.size; exact Ja ⟨_, rfl, hGw39, ⟨A35, k36, hs37, rfl, hR40⟩, (fun _ => fun g hg => QX hRww39 hg), (fun j h => by cases h)⟩
  .rintro LT w51 ⟨A49, k50, hs37_3, hS, hsub⟩; obtain ⟨o48, hv⟩ := hv; refine WA.sub hsub <| Jh 9 rfl <| SL.call hS (YG (hS.ro hf) (RlR.rl ((Jd1 (hS.inrs (i := 1) rfl)).append (RlH.rows (RlH.ext hHb hS.ext))) (hS.rd (i := 0) rfl)) hv) Jmn rfl Jo0 rfl rfl ?_; rintro _ _ w54 ⟨x55, x56, A57, k58, hs59, A61, k62, rfl, rfl, hv⟩ hGw54 hS; have hS := hS.n2; refine Ja <| Jh 10 rfl <| Jb 2 <| JU 11 12 rfl rfl ?_ ?_
   .refine Jb 2 <| JU 12 13 rfl rfl ?_ ?_
    .refine Jb 2 <| Jh 13 rfl <| Jb 2 <| Jh 14 rfl <| Jb 2 <| JJ ?_; have hS := hS.pick [0, 4, 5, 6, 7] rfl; exact ⟨(x55, A57, k58, hs59), sp rfl, rfl, hv, hS⟩
    refine Jb 2 <| Jh 12 rfl <| Jb 2 <| Jh 14 rfl <| Jb 2 <| JJ ?_; have hS := hS.pick [0, 4, 5, 6, 7] rfl; exact ⟨(x55, A57, k58, hs59), sp rfl, rfl, hv, hS⟩
   refine Jb 2 <| Jh 11 rfl <| Jb 2 <| Jh 13 rfl <| Jb 2 <| Jh 14 rfl <| Jb 2 <| JJ ?_; have hS := hS.pick [0, 4, 5, 6, 7] rfl; exact ⟨(x55, A57, k58, hs59), sp rfl, rfl, hv, hS⟩
  intro tl X hX; have hX : X ∈ ([[6], [6, 8], [6, 7], [6, 7, 8], [0, 6], [0, 6, 8], [0, 6, 7], [0, 6, 7, 8]] : List (List Nat)) := hX; simp only [List.mem_cons, List.not_mem_nil, or_false] at hX; rcases hX with rfl | rfl | rfl | rfl | rfl | rfl | rfl | rfl
  .intro vals w46 hT hVs hAp hCp q_ hq_; have hS := hS.grow hT; obtain rfl : q_ = 7 := hq_.trans (by decide +kernel); obtain ⟨A35_3, k36_3, hs37_3, hv3, hR40_3⟩ := hVs 3 (by decide) (by decide); have hS := Qs [] hS0 hS hR40_3 (fun s hs => by cases hs); refine Qw [(3, nS A35_3 x34 k36_3)] ⟨hv3, trivial⟩ <| Jh 6 rfl ?_; obtain ⟨o48, hv⟩ := hv; refine JS hS (RlH.ext hHb hS.ext) Jt Jw rfl rfl (apk o48).1 (apk o48).2 rfl ?_; intro A49 k50 w51 hS; exact Ja <| tl _ _ ⟨_, _, _, hS, sp rfl⟩
  .intro vals w46 hT hVs hAp hCp q_ hq_; have hS := hS.grow hT; obtain rfl : q_ = 8 := hq_.trans (by decide +kernel); obtain ⟨A35_3, k36_3, hs37_3, hv3, hR40_3⟩ := hVs 3 (by decide) (by decide); have hS := Qs [] hS0 hS hR40_3 (fun s hs => by cases hs); refine Qw [(3, nS A35_3 x34 k36_3)] ⟨hv3, trivial⟩ <| JU 6 8 rfl rfl ?_ ?_
   .obtain ⟨o48, hv⟩ := hv; refine JS hS (RlH.ext hHb hS.ext) Jt Jw rfl rfl (apk o48).1 (apk o48).2 rfl ?_; intro A49 k50 w51 hS; exact Ja <| Jh 8 rfl <| Jo 4 0 XU3 hS rfl rfl rfl ⟨rfl, rfl⟩ <| Ja <| tl _ _ ⟨_, _, _, hS, sp rfl⟩
   refine Jo 3 0 XU3 hS rfl rfl rfl ⟨rfl, rfl⟩ <| Ja <| Jh 6 rfl ?_; obtain ⟨o48, hv⟩ := hv; refine JS hS (RlH.ext hHb hS.ext) Jt Jw rfl rfl (apk o48).1 (apk o48).2 rfl ?_; intro A49 k50 w51 hS; exact Ja <| tl _ _ ⟨_, _, _, hS, sp rfl⟩
  .intro vals w46 hT hVs hAp hCp q_ hq_; have hS := hS.grow hT; obtain rfl : q_ = 8 := hq_.trans (by decide +kernel); obtain ⟨A35_3, k36_3, hs37_3, hv3, hR40_3⟩ := hVs 3 (by decide) (by decide); have hS := Qs [] hS0 hS hR40_3 (fun s hs => by cases hs); refine Qw [(3, nS A35_3 x34 k36_3)] ⟨hv3, trivial⟩ <| JU 6 7 rfl rfl ?_ ?_
   .obtain ⟨o48, hv⟩ := hv; refine JS hS (RlH.ext hHb hS.ext) Jt Jw rfl rfl (apk o48).1 (apk o48).2 rfl ?_; intro A49 k50 w51 hS; refine Ja <| JU 7 9 rfl rfl ?_ ?_
    .exact Jd (off := 0) JK rfl rfl <| Ja <| tl _ _ ⟨_, _, _, hS, sp rfl⟩
    refine SL.call hS (YG (hS.ro hf) (RlR.rl ((Jd1 (hS.inrs (i := 1) rfl)).append (RlH.rows (RlH.ext hHb hS.ext))) (hS.rd (i := 0) rfl)) hv) Jmn rfl Jo0 rfl rfl ?_; rintro _ _ w54 ⟨x55, x56, A57, k58, hs59, A61, k62, rfl, rfl, hv⟩ hGw54 hS; have hS := hS.n2; refine Ja <| JU 7 10 rfl rfl ?_ ?_
    .refine Jd (off := 0) JK rfl rfl <| Ja <| Jh 10 rfl <| Jb 2 <| JU 11 12 rfl rfl ?_ ?_
     .refine Jb 2 <| JU 12 13 rfl rfl ?_ ?_
      .refine Jb 2 <| Jh 13 rfl <| Jb 2 <| Jh 14 rfl <| Jb 2 <| JJ ?_; have hS := hS.pick [0, 4, 5, 6, 7] rfl; exact ⟨(x55, A57, k58, hs59), sp rfl, rfl, hv, hS⟩
      refine Jb 2 <| Jh 12 rfl <| Jb 2 <| Jh 14 rfl <| Jb 2 <| JJ ?_; have hS := hS.pick [0, 4, 5, 6, 7] rfl; exact ⟨(x55, A57, k58, hs59), sp rfl, rfl, hv, hS⟩
     refine Jb 2 <| Jh 11 rfl <| Jb 2 <| Jh 13 rfl <| Jb 2 <| Jh 14 rfl <| Jb 2 <| JJ ?_; have hS := hS.pick [0, 4, 5, 6, 7] rfl; exact ⟨(x55, A57, k58, hs59), sp rfl, rfl, hv, hS⟩
    refine Jb 2 <| Jcd 7 11 12 rfl rfl rfl ?_ ?_ ?_
    .refine Jd (off := 0) JK rfl rfl <| Ja <| JU 11 12 rfl rfl ?_ ?_
     .refine Jb 2 <| JU 12 13 rfl rfl ?_ ?_
      .refine Jb 2 <| Jh 13 rfl <| Jb 2 <| Jh 14 rfl <| Jb 2 <| JJ ?_; have hS := hS.pick [0, 4, 5, 6, 7] rfl; exact ⟨(x55, A57, k58, hs59), sp rfl, rfl, hv, hS⟩
      refine Jb 2 <| Jh 12 rfl <| Jb 2 <| Jh 14 rfl <| Jb 2 <| JJ ?_; have hS := hS.pick [0, 4, 5, 6, 7] rfl; exact ⟨(x55, A57, k58, hs59), sp rfl, rfl, hv, hS⟩
     refine Jb 2 <| Jh 11 rfl <| Jb 2 <| Jh 13 rfl <| Jb 2 <| Jh 14 rfl <| Jb 2 <| JJ ?_; have hS := hS.pick [0, 4, 5, 6, 7] rfl; exact ⟨(x55, A57, k58, hs59), sp rfl, rfl, hv, hS⟩
    .refine Jb 2 <| JU 7 12 rfl rfl ?_ ?_
     .refine Jd (off := 0) JK rfl rfl <| Ja <| JU 12 13 rfl rfl ?_ ?_
      .refine Jb 2 <| Jh 13 rfl <| Jb 2 <| Jh 14 rfl <| Jb 2 <| JJ ?_; have hS := hS.pick [0, 4, 5, 6, 7] rfl; exact ⟨(x55, A57, k58, hs59), sp rfl, rfl, hv, hS⟩
      refine Jb 2 <| Jh 12 rfl <| Jb 2 <| Jh 14 rfl <| Jb 2 <| JJ ?_; have hS := hS.pick [0, 4, 5, 6, 7] rfl; exact ⟨(x55, A57, k58, hs59), sp rfl, rfl, hv, hS⟩
     refine Jb 2 <| Jh 7 rfl <| Jd (off := 0) JK rfl rfl <| Ja <| Jh 13 rfl <| Jb 2 <| Jh 14 rfl <| Jb 2 <| JJ ?_; have hS := hS.pick [0, 4, 5, 6, 7] rfl; exact ⟨(x55, A57, k58, hs59), sp rfl, rfl, hv, hS⟩
    refine Jb 2 <| JU 7 11 rfl rfl ?_ ?_
    .refine Jd (off := 0) JK rfl rfl <| Ja <| Jh 11 rfl <| Jb 2 <| Jh 13 rfl <| Jb 2 <| Jh 14 rfl <| Jb 2 <| JJ ?_; have hS := hS.pick [0, 4, 5, 6, 7] rfl; exact ⟨(x55, A57, k58, hs59), sp rfl, rfl, hv, hS⟩
    refine Jb 2 <| Jh 7 rfl <| Jd (off := 0) JK rfl rfl <| Ja <| Jh 13 rfl <| Jb 2 <| Jh 14 rfl <| Jb 2 <| JJ ?_; have hS := hS.pick [0, 4, 5, 6, 7] rfl; exact ⟨(x55, A57, k58, hs59), sp rfl, rfl, hv, hS⟩
   refine Jd (off := 0) JK rfl rfl <| Ja <| Jh 6 rfl ?_; obtain ⟨o48, hv⟩ := hv; refine JS hS (RlH.ext hHb hS.ext) Jt Jw rfl rfl (apk o48).1 (apk o48).2 rfl ?_; intro A49 k50 w51 hS; exact Ja <| tl _ _ ⟨_, _, _, hS, sp rfl⟩
  .intro vals w46 hT hVs hAp hCp q_ hq_; have hS := hS.grow hT; obtain rfl : q_ = 9 := hq_.trans (by decide +kernel); obtain ⟨A35_3, k36_3, hs37_3, hv3, hR40_3⟩ := hVs 3 (by decide) (by decide); have hS := Qs [] hS0 hS hR40_3 (fun s hs => by cases hs); refine Qw [(3, nS A35_3 x34 k36_3)] ⟨hv3, trivial⟩ <| JU 6 7 rfl rfl ?_ ?_
   .obtain ⟨o48, hv⟩ := hv; refine JS hS (RlH.ext hHb hS.ext) Jt Jw rfl rfl (apk o48).1 (apk o48).2 rfl ?_; intro A49 k50 w51 hS; exact Ja <| Jh 7 rfl <| Jd (off := 0) JK rfl rfl <| Ja <| Jh 8 rfl <| Jo 4 0 XU3 hS rfl rfl rfl ⟨rfl, rfl⟩ <| Ja <| tl _ _ ⟨_, _, _, hS, sp rfl⟩
   refine Jd (off := 0) JK rfl rfl <| Ja <| JU 6 8 rfl rfl ?_ ?_
   .obtain ⟨o48, hv⟩ := hv; refine JS hS (RlH.ext hHb hS.ext) Jt Jw rfl rfl (apk o48).1 (apk o48).2 rfl ?_; intro A49 k50 w51 hS; exact Ja <| Jh 8 rfl <| Jo 4 0 XU3 hS rfl rfl rfl ⟨rfl, rfl⟩ <| Ja <| tl _ _ ⟨_, _, _, hS, sp rfl⟩
   refine Jo 3 0 XU3 hS rfl rfl rfl ⟨rfl, rfl⟩ <| Ja <| Jh 6 rfl ?_; obtain ⟨o48, hv⟩ := hv; refine JS hS (RlH.ext hHb hS.ext) Jt Jw rfl rfl (apk o48).1 (apk o48).2 rfl ?_; intro A49 k50 w51 hS; exact Ja <| tl _ _ ⟨_, _, _, hS, sp rfl⟩
  .intro vals w46 hT hVs hAp hCp q_ hq_; have hS := hS.grow hT; obtain rfl : q_ = 8 := hq_.trans (by decide +kernel); obtain ⟨A35_3, k36_3, hs37_3, hv3, hR40_3⟩ := hVs 3 (by decide) (by decide); have hS := Qs [] hS0 hS hR40_3 (fun s hs => by cases hs); refine Qw [(3, nS A35_3 x34 k36_3)] ⟨hv3, trivial⟩ <| JU 0 6 rfl rfl ?_ ?_
   .refine Jg (cs := [nI Pf, nI Mf, nS Af mf kf]) JO JP rfl rfl (Jc (hS.own (i := 4) rfl)) rfl <| Ja <| Jh 6 rfl ?_; obtain ⟨o48, hv⟩ := hv; refine JS hS (RlH.ext hHb hS.ext) Jt Jw rfl rfl (apk o48).1 (apk o48).2 rfl ?_; intro A49 k50 w51 hS; exact Ja <| tl _ _ ⟨_, _, _, hS, sp rfl⟩
   obtain ⟨o48, hv⟩ := hv; refine JS hS (RlH.ext hHb hS.ext) Jt Jw rfl rfl (apk o48).1 (apk o48).2 rfl ?_; intro A49 k50 w51 hS; exact Ja <| Jh 0 rfl <| Jg (cs := [nI Pf, nI Mf, nS Af mf kf]) JO JP rfl rfl (Jc (hS.own (i := 5) rfl)) rfl <| Ja <| tl _ _ ⟨_, _, _, hS, sp rfl⟩
  .intro vals w46 hT hVs hAp hCp q_ hq_; have hS := hS.grow hT; obtain rfl : q_ = 9 := hq_.trans (by decide +kernel); obtain ⟨A35_3, k36_3, hs37_3, hv3, hR40_3⟩ := hVs 3 (by decide) (by decide); have hS := Qs [] hS0 hS hR40_3 (fun s hs => by cases hs); refine Qw [(3, nS A35_3 x34 k36_3)] ⟨hv3, trivial⟩ <| Jcd 0 6 8 rfl rfl rfl ?_ ?_ ?_
   .refine Jg (cs := [nI Pf, nI Mf, nS Af mf kf]) JO JP rfl rfl (Jc (hS.own (i := 4) rfl)) rfl <| Ja <| JU 6 8 rfl rfl ?_ ?_
    .obtain ⟨o48, hv⟩ := hv; refine JS hS (RlH.ext hHb hS.ext) Jt Jw rfl rfl (apk o48).1 (apk o48).2 rfl ?_; intro A49 k50 w51 hS; exact Ja <| Jh 8 rfl <| Jo 4 0 XU3 hS rfl rfl rfl ⟨rfl, rfl⟩ <| Ja <| tl _ _ ⟨_, _, _, hS, sp rfl⟩
    refine Jo 3 0 XU3 hS rfl rfl rfl ⟨rfl, rfl⟩ <| Ja <| Jh 6 rfl ?_; obtain ⟨o48, hv⟩ := hv; refine JS hS (RlH.ext hHb hS.ext) Jt Jw rfl rfl (apk o48).1 (apk o48).2 rfl ?_; intro A49 k50 w51 hS; exact Ja <| tl _ _ ⟨_, _, _, hS, sp rfl⟩
   .obtain ⟨o48, hv⟩ := hv; refine JS hS (RlH.ext hHb hS.ext) Jt Jw rfl rfl (apk o48).1 (apk o48).2 rfl ?_; intro A49 k50 w51 hS; refine Ja <| JU 0 8 rfl rfl ?_ ?_
    .exact Jg (cs := [nI Pf, nI Mf, nS Af mf kf]) JO JP rfl rfl (Jc (hS.own (i := 5) rfl)) rfl <| Ja <| Jh 8 rfl <| Jo 4 0 XU3 hS rfl rfl rfl ⟨rfl, rfl⟩ <| Ja <| tl _ _ ⟨_, _, _, hS, sp rfl⟩
    exact Jo 4 0 XU3 hS rfl rfl rfl ⟨rfl, rfl⟩ <| Ja <| Jh 0 rfl <| Jg (cs := [nI Pf, nI Mf, nS Af mf kf]) JO JP rfl rfl (Jc (hS.own (i := 5) rfl)) rfl <| Ja <| tl _ _ ⟨_, _, _, hS, sp rfl⟩
   refine Jo 3 0 XU3 hS rfl rfl rfl ⟨rfl, rfl⟩ <| Ja <| JU 0 6 rfl rfl ?_ ?_
   .refine Jg (cs := [nI Pf, nI Mf, nS Af mf kf]) JO JP rfl rfl (Jc (hS.own (i := 4) rfl)) rfl <| Ja <| Jh 6 rfl ?_; obtain ⟨o48, hv⟩ := hv; refine JS hS (RlH.ext hHb hS.ext) Jt Jw rfl rfl (apk o48).1 (apk o48).2 rfl ?_; intro A49 k50 w51 hS; exact Ja <| tl _ _ ⟨_, _, _, hS, sp rfl⟩
   obtain ⟨o48, hv⟩ := hv; refine JS hS (RlH.ext hHb hS.ext) Jt Jw rfl rfl (apk o48).1 (apk o48).2 rfl ?_; intro A49 k50 w51 hS; exact Ja <| Jh 0 rfl <| Jg (cs := [nI Pf, nI Mf, nS Af mf kf]) JO JP rfl rfl (Jc (hS.own (i := 5) rfl)) rfl <| Ja <| tl _ _ ⟨_, _, _, hS, sp rfl⟩
  .intro vals w46 hT hVs hAp hCp q_ hq_; have hS := hS.grow hT; obtain rfl : q_ = 9 := hq_.trans (by decide +kernel); obtain ⟨A35_3, k36_3, hs37_3, hv3, hR40_3⟩ := hVs 3 (by decide) (by decide); have hS := Qs [] hS0 hS hR40_3 (fun s hs => by cases hs); refine Qw [(3, nS A35_3 x34 k36_3)] ⟨hv3, trivial⟩ <| Jcd 0 6 7 rfl rfl rfl ?_ ?_ ?_
   .refine Jg (cs := [nI Pf, nI Mf, nS Af mf kf]) JO JP rfl rfl (Jc (hS.own (i := 4) rfl)) rfl <| Ja <| JU 6 7 rfl rfl ?_ ?_
    .obtain ⟨o48, hv⟩ := hv; refine JS hS (RlH.ext hHb hS.ext) Jt Jw rfl rfl (apk o48).1 (apk o48).2 rfl ?_; intro A49 k50 w51 hS; refine Ja <| JU 7 9 rfl rfl ?_ ?_
     .exact Jd (off := 0) JK rfl rfl <| Ja <| tl _ _ ⟨_, _, _, hS, sp rfl⟩
     refine SL.call hS (YG (hS.ro hf) (RlR.rl ((Jd1 (hS.inrs (i := 1) rfl)).append (RlH.rows (RlH.ext hHb hS.ext))) (hS.rd (i := 0) rfl)) hv) Jmn rfl Jo0 rfl rfl ?_; rintro _ _ w54 ⟨x55, x56, A57, k58, hs59, A61, k62, rfl, rfl, hv⟩ hGw54 hS; have hS := hS.n2; refine Ja <| JU 7 10 rfl rfl ?_ ?_
     .refine Jd (off := 0) JK rfl rfl <| Ja <| Jh 10 rfl <| Jb 2 <| JU 11 12 rfl rfl ?_ ?_
      .refine Jb 2 <| JU 12 13 rfl rfl ?_ ?_
       .refine Jb 2 <| Jh 13 rfl <| Jb 2 <| Jh 14 rfl <| Jb 2 <| JJ ?_; have hS := hS.pick [0, 4, 5, 6, 7] rfl; exact ⟨(x55, A57, k58, hs59), sp rfl, rfl, hv, hS⟩
       refine Jb 2 <| Jh 12 rfl <| Jb 2 <| Jh 14 rfl <| Jb 2 <| JJ ?_; have hS := hS.pick [0, 4, 5, 6, 7] rfl; exact ⟨(x55, A57, k58, hs59), sp rfl, rfl, hv, hS⟩
      refine Jb 2 <| Jh 11 rfl <| Jb 2 <| Jh 13 rfl <| Jb 2 <| Jh 14 rfl <| Jb 2 <| JJ ?_; have hS := hS.pick [0, 4, 5, 6, 7] rfl; exact ⟨(x55, A57, k58, hs59), sp rfl, rfl, hv, hS⟩
     refine Jb 2 <| Jcd 7 11 12 rfl rfl rfl ?_ ?_ ?_
     .refine Jd (off := 0) JK rfl rfl <| Ja <| JU 11 12 rfl rfl ?_ ?_
      .refine Jb 2 <| JU 12 13 rfl rfl ?_ ?_
       .refine Jb 2 <| Jh 13 rfl <| Jb 2 <| Jh 14 rfl <| Jb 2 <| JJ ?_; have hS := hS.pick [0, 4, 5, 6, 7] rfl; exact ⟨(x55, A57, k58, hs59), sp rfl, rfl, hv, hS⟩
       refine Jb 2 <| Jh 12 rfl <| Jb 2 <| Jh 14 rfl <| Jb 2 <| JJ ?_; have hS := hS.pick [0, 4, 5, 6, 7] rfl; exact ⟨(x55, A57, k58, hs59), sp rfl, rfl, hv, hS⟩
      refine Jb 2 <| Jh 11 rfl <| Jb 2 <| Jh 13 rfl <| Jb 2 <| Jh 14 rfl <| Jb 2 <| JJ ?_; have hS := hS.pick [0, 4, 5, 6, 7] rfl; exact ⟨(x55, A57, k58, hs59), sp rfl, rfl, hv, hS⟩
     .refine Jb 2 <| JU 7 12 rfl rfl ?_ ?_
      .refine Jd (off := 0) JK rfl rfl <| Ja <| JU 12 13 rfl rfl ?_ ?_
       .refine Jb 2 <| Jh 13 rfl <| Jb 2 <| Jh 14 rfl <| Jb 2 <| JJ ?_; have hS := hS.pick [0, 4, 5, 6, 7] rfl; exact ⟨(x55, A57, k58, hs59), sp rfl, rfl, hv, hS⟩
       refine Jb 2 <| Jh 12 rfl <| Jb 2 <| Jh 14 rfl <| Jb 2 <| JJ ?_; have hS := hS.pick [0, 4, 5, 6, 7] rfl; exact ⟨(x55, A57, k58, hs59), sp rfl, rfl, hv, hS⟩
      refine Jb 2 <| Jh 7 rfl <| Jd (off := 0) JK rfl rfl <| Ja <| Jh 13 rfl <| Jb 2 <| Jh 14 rfl <| Jb 2 <| JJ ?_; have hS := hS.pick [0, 4, 5, 6, 7] rfl; exact ⟨(x55, A57, k58, hs59), sp rfl, rfl, hv, hS⟩
     refine Jb 2 <| JU 7 11 rfl rfl ?_ ?_
     .refine Jd (off := 0) JK rfl rfl <| Ja <| Jh 11 rfl <| Jb 2 <| Jh 13 rfl <| Jb 2 <| Jh 14 rfl <| Jb 2 <| JJ ?_; have hS := hS.pick [0, 4, 5, 6, 7] rfl; exact ⟨(x55, A57, k58, hs59), sp rfl, rfl, hv, hS⟩
     refine Jb 2 <| Jh 7 rfl <| Jd (off := 0) JK rfl rfl <| Ja <| Jh 13 rfl <| Jb 2 <| Jh 14 rfl <| Jb 2 <| JJ ?_; have hS := hS.pick [0, 4, 5, 6, 7] rfl; exact ⟨(x55, A57, k58, hs59), sp rfl, rfl, hv, hS⟩
    refine Jd (off := 0) JK rfl rfl <| Ja <| Jh 6 rfl ?_; obtain ⟨o48, hv⟩ := hv; refine JS hS (RlH.ext hHb hS.ext) Jt Jw rfl rfl (apk o48).1 (apk o48).2 rfl ?_; intro A49 k50 w51 hS; exact Ja <| tl _ _ ⟨_, _, _, hS, sp rfl⟩
   .obtain ⟨o48, hv⟩ := hv; refine JS hS (RlH.ext hHb hS.ext) Jt Jw rfl rfl (apk o48).1 (apk o48).2 rfl ?_; intro A49 k50 w51 hS; refine Ja <| JU 0 7 rfl rfl ?_ ?_
    .refine Jg (cs := [nI Pf, nI Mf, nS Af mf kf]) JO JP rfl rfl (Jc (hS.own (i := 5) rfl)) rfl <| Ja <| JU 7 9 rfl rfl ?_ ?_
     .exact Jd (off := 0) JK rfl rfl <| Ja <| tl _ _ ⟨_, _, _, hS, sp rfl⟩
     refine SL.call hS (YG (hS.ro hf) (RlR.rl ((Jd1 (hS.inrs (i := 1) rfl)).append (RlH.rows (RlH.ext hHb hS.ext))) (hS.rd (i := 0) rfl)) hv) Jmn rfl Jo0 rfl rfl ?_; rintro _ _ w54 ⟨x55, x56, A57, k58, hs59, A61, k62, rfl, rfl, hv⟩ hGw54 hS; have hS := hS.n2; refine Ja <| JU 7 10 rfl rfl ?_ ?_
     .refine Jd (off := 0) JK rfl rfl <| Ja <| Jh 10 rfl <| Jb 2 <| JU 11 12 rfl rfl ?_ ?_
      .refine Jb 2 <| JU 12 13 rfl rfl ?_ ?_
       .refine Jb 2 <| Jh 13 rfl <| Jb 2 <| Jh 14 rfl <| Jb 2 <| JJ ?_; have hS := hS.pick [0, 4, 5, 6, 7] rfl; exact ⟨(x55, A57, k58, hs59), sp rfl, rfl, hv, hS⟩
       refine Jb 2 <| Jh 12 rfl <| Jb 2 <| Jh 14 rfl <| Jb 2 <| JJ ?_; have hS := hS.pick [0, 4, 5, 6, 7] rfl; exact ⟨(x55, A57, k58, hs59), sp rfl, rfl, hv, hS⟩
      refine Jb 2 <| Jh 11 rfl <| Jb 2 <| Jh 13 rfl <| Jb 2 <| Jh 14 rfl <| Jb 2 <| JJ ?_; have hS := hS.pick [0, 4, 5, 6, 7] rfl; exact ⟨(x55, A57, k58, hs59), sp rfl, rfl, hv, hS⟩
     refine Jb 2 <| Jcd 7 11 12 rfl rfl rfl ?_ ?_ ?_
     .refine Jd (off := 0) JK rfl rfl <| Ja <| JU 11 12 rfl rfl ?_ ?_
      .refine Jb 2 <| JU 12 13 rfl rfl ?_ ?_
       .refine Jb 2 <| Jh 13 rfl <| Jb 2 <| Jh 14 rfl <| Jb 2 <| JJ ?_; have hS := hS.pick [0, 4, 5, 6, 7] rfl; exact ⟨(x55, A57, k58, hs59), sp rfl, rfl, hv, hS⟩
       refine Jb 2 <| Jh 12 rfl <| Jb 2 <| Jh 14 rfl <| Jb 2 <| JJ ?_; have hS := hS.pick [0, 4, 5, 6, 7] rfl; exact ⟨(x55, A57, k58, hs59), sp rfl, rfl, hv, hS⟩
      refine Jb 2 <| Jh 11 rfl <| Jb 2 <| Jh 13 rfl <| Jb 2 <| Jh 14 rfl <| Jb 2 <| JJ ?_; have hS := hS.pick [0, 4, 5, 6, 7] rfl; exact ⟨(x55, A57, k58, hs59), sp rfl, rfl, hv, hS⟩
     .refine Jb 2 <| JU 7 12 rfl rfl ?_ ?_
      .refine Jd (off := 0) JK rfl rfl <| Ja <| JU 12 13 rfl rfl ?_ ?_
       .refine Jb 2 <| Jh 13 rfl <| Jb 2 <| Jh 14 rfl <| Jb 2 <| JJ ?_; have hS := hS.pick [0, 4, 5, 6, 7] rfl; exact ⟨(x55, A57, k58, hs59), sp rfl, rfl, hv, hS⟩
       refine Jb 2 <| Jh 12 rfl <| Jb 2 <| Jh 14 rfl <| Jb 2 <| JJ ?_; have hS := hS.pick [0, 4, 5, 6, 7] rfl; exact ⟨(x55, A57, k58, hs59), sp rfl, rfl, hv, hS⟩
      refine Jb 2 <| Jh 7 rfl <| Jd (off := 0) JK rfl rfl <| Ja <| Jh 13 rfl <| Jb 2 <| Jh 14 rfl <| Jb 2 <| JJ ?_; have hS := hS.pick [0, 4, 5, 6, 7] rfl; exact ⟨(x55, A57, k58, hs59), sp rfl, rfl, hv, hS⟩
     refine Jb 2 <| JU 7 11 rfl rfl ?_ ?_
     .refine Jd (off := 0) JK rfl rfl <| Ja <| Jh 11 rfl <| Jb 2 <| Jh 13 rfl <| Jb 2 <| Jh 14 rfl <| Jb 2 <| JJ ?_; have hS := hS.pick [0, 4, 5, 6, 7] rfl; exact ⟨(x55, A57, k58, hs59), sp rfl, rfl, hv, hS⟩
     refine Jb 2 <| Jh 7 rfl <| Jd (off := 0) JK rfl rfl <| Ja <| Jh 13 rfl <| Jb 2 <| Jh 14 rfl <| Jb 2 <| JJ ?_; have hS := hS.pick [0, 4, 5, 6, 7] rfl; exact ⟨(x55, A57, k58, hs59), sp rfl, rfl, hv, hS⟩
    exact Jd (off := 0) JK rfl rfl <| Ja <| Jh 0 rfl <| Jg (cs := [nI Pf, nI Mf, nS Af mf kf]) JO JP rfl rfl (Jc (hS.own (i := 5) rfl)) rfl <| Ja <| tl _ _ ⟨_, _, _, hS, sp rfl⟩
   refine Jd (off := 0) JK rfl rfl <| Ja <| JU 0 6 rfl rfl ?_ ?_
   .refine Jg (cs := [nI Pf, nI Mf, nS Af mf kf]) JO JP rfl rfl (Jc (hS.own (i := 4) rfl)) rfl <| Ja <| Jh 6 rfl ?_; obtain ⟨o48, hv⟩ := hv; refine JS hS (RlH.ext hHb hS.ext) Jt Jw rfl rfl (apk o48).1 (apk o48).2 rfl ?_; intro A49 k50 w51 hS; exact Ja <| tl _ _ ⟨_, _, _, hS, sp rfl⟩
   obtain ⟨o48, hv⟩ := hv; refine JS hS (RlH.ext hHb hS.ext) Jt Jw rfl rfl (apk o48).1 (apk o48).2 rfl ?_; intro A49 k50 w51 hS; exact Ja <| Jh 0 rfl <| Jg (cs := [nI Pf, nI Mf, nS Af mf kf]) JO JP rfl rfl (Jc (hS.own (i := 5) rfl)) rfl <| Ja <| tl _ _ ⟨_, _, _, hS, sp rfl⟩
  intro vals w46 hT hVs hAp hCp q_ hq_; have hS := hS.grow hT; obtain rfl : q_ = 10 := hq_.trans (by decide +kernel); obtain ⟨A35_3, k36_3, hs37_3, hv3, hR40_3⟩ := hVs 3 (by decide) (by decide); have hS := Qs [] hS0 hS hR40_3 (fun s hs => by cases hs); refine Qw [(3, nS A35_3 x34 k36_3)] ⟨hv3, trivial⟩ <| Jcd 0 6 7 rfl rfl rfl ?_ ?_ ?_
  .refine Jg (cs := [nI Pf, nI Mf, nS Af mf kf]) JO JP rfl rfl (Jc (hS.own (i := 4) rfl)) rfl <| Ja <| JU 6 7 rfl rfl ?_ ?_
   .obtain ⟨o48, hv⟩ := hv; refine JS hS (RlH.ext hHb hS.ext) Jt Jw rfl rfl (apk o48).1 (apk o48).2 rfl ?_; intro A49 k50 w51 hS; exact Ja <| Jh 7 rfl <| Jd (off := 0) JK rfl rfl <| Ja <| Jh 8 rfl <| Jo 4 0 XU3 hS rfl rfl rfl ⟨rfl, rfl⟩ <| Ja <| tl _ _ ⟨_, _, _, hS, sp rfl⟩
   refine Jd (off := 0) JK rfl rfl <| Ja <| JU 6 8 rfl rfl ?_ ?_
   .obtain ⟨o48, hv⟩ := hv; refine JS hS (RlH.ext hHb hS.ext) Jt Jw rfl rfl (apk o48).1 (apk o48).2 rfl ?_; intro A49 k50 w51 hS; exact Ja <| Jh 8 rfl <| Jo 4 0 XU3 hS rfl rfl rfl ⟨rfl, rfl⟩ <| Ja <| tl _ _ ⟨_, _, _, hS, sp rfl⟩
   refine Jo 3 0 XU3 hS rfl rfl rfl ⟨rfl, rfl⟩ <| Ja <| Jh 6 rfl ?_; obtain ⟨o48, hv⟩ := hv; refine JS hS (RlH.ext hHb hS.ext) Jt Jw rfl rfl (apk o48).1 (apk o48).2 rfl ?_; intro A49 k50 w51 hS; exact Ja <| tl _ _ ⟨_, _, _, hS, sp rfl⟩
  .obtain ⟨o48, hv⟩ := hv; refine JS hS (RlH.ext hHb hS.ext) Jt Jw rfl rfl (apk o48).1 (apk o48).2 rfl ?_; intro A49 k50 w51 hS; refine Ja <| JU 0 7 rfl rfl ?_ ?_
   .exact Jg (cs := [nI Pf, nI Mf, nS Af mf kf]) JO JP rfl rfl (Jc (hS.own (i := 5) rfl)) rfl <| Ja <| Jh 7 rfl <| Jd (off := 0) JK rfl rfl <| Ja <| Jh 8 rfl <| Jo 4 0 XU3 hS rfl rfl rfl ⟨rfl, rfl⟩ <| Ja <| tl _ _ ⟨_, _, _, hS, sp rfl⟩
   refine Jd (off := 0) JK rfl rfl <| Ja <| JU 0 8 rfl rfl ?_ ?_
   .exact Jg (cs := [nI Pf, nI Mf, nS Af mf kf]) JO JP rfl rfl (Jc (hS.own (i := 5) rfl)) rfl <| Ja <| Jh 8 rfl <| Jo 4 0 XU3 hS rfl rfl rfl ⟨rfl, rfl⟩ <| Ja <| tl _ _ ⟨_, _, _, hS, sp rfl⟩
   exact Jo 4 0 XU3 hS rfl rfl rfl ⟨rfl, rfl⟩ <| Ja <| Jh 0 rfl <| Jg (cs := [nI Pf, nI Mf, nS Af mf kf]) JO JP rfl rfl (Jc (hS.own (i := 5) rfl)) rfl <| Ja <| tl _ _ ⟨_, _, _, hS, sp rfl⟩
  refine Jd (off := 0) JK rfl rfl <| Ja <| Jcd 0 6 8 rfl rfl rfl ?_ ?_ ?_
  .refine Jg (cs := [nI Pf, nI Mf, nS Af mf kf]) JO JP rfl rfl (Jc (hS.own (i := 4) rfl)) rfl <| Ja <| JU 6 8 rfl rfl ?_ ?_
   .obtain ⟨o48, hv⟩ := hv; refine JS hS (RlH.ext hHb hS.ext) Jt Jw rfl rfl (apk o48).1 (apk o48).2 rfl ?_; intro A49 k50 w51 hS; exact Ja <| Jh 8 rfl <| Jo 4 0 XU3 hS rfl rfl rfl ⟨rfl, rfl⟩ <| Ja <| tl _ _ ⟨_, _, _, hS, sp rfl⟩
   refine Jo 3 0 XU3 hS rfl rfl rfl ⟨rfl, rfl⟩ <| Ja <| Jh 6 rfl ?_; obtain ⟨o48, hv⟩ := hv; refine JS hS (RlH.ext hHb hS.ext) Jt Jw rfl rfl (apk o48).1 (apk o48).2 rfl ?_; intro A49 k50 w51 hS; exact Ja <| tl _ _ ⟨_, _, _, hS, sp rfl⟩
  .obtain ⟨o48, hv⟩ := hv; refine JS hS (RlH.ext hHb hS.ext) Jt Jw rfl rfl (apk o48).1 (apk o48).2 rfl ?_; intro A49 k50 w51 hS; refine Ja <| JU 0 8 rfl rfl ?_ ?_
   .exact Jg (cs := [nI Pf, nI Mf, nS Af mf kf]) JO JP rfl rfl (Jc (hS.own (i := 5) rfl)) rfl <| Ja <| Jh 8 rfl <| Jo 4 0 XU3 hS rfl rfl rfl ⟨rfl, rfl⟩ <| Ja <| tl _ _ ⟨_, _, _, hS, sp rfl⟩
   exact Jo 4 0 XU3 hS rfl rfl rfl ⟨rfl, rfl⟩ <| Ja <| Jh 0 rfl <| Jg (cs := [nI Pf, nI Mf, nS Af mf kf]) JO JP rfl rfl (Jc (hS.own (i := 5) rfl)) rfl <| Ja <| tl _ _ ⟨_, _, _, hS, sp rfl⟩
  refine Jo 3 0 XU3 hS rfl rfl rfl ⟨rfl, rfl⟩ <| Ja <| JU 0 6 rfl rfl ?_ ?_
  .refine Jg (cs := [nI Pf, nI Mf, nS Af mf kf]) JO JP rfl rfl (Jc (hS.own (i := 4) rfl)) rfl <| Ja <| Jh 6 rfl ?_; obtain ⟨o48, hv⟩ := hv; refine JS hS (RlH.ext hHb hS.ext) Jt Jw rfl rfl (apk o48).1 (apk o48).2 rfl ?_; intro A49 k50 w51 hS; exact Ja <| tl _ _ ⟨_, _, _, hS, sp rfl⟩
  obtain ⟨o48, hv⟩ := hv; refine JS hS (RlH.ext hHb hS.ext) Jt Jw rfl rfl (apk o48).1 (apk o48).2 rfl ?_; intro A49 k50 w51 hS; exact Ja <| Jh 0 rfl <| Jg (cs := [nI Pf, nI Mf, nS Af mf kf]) JO JP rfl rfl (Jc (hS.own (i := 5) rfl)) rfl <| Ja <| tl _ _ ⟨_, _, _, hS, sp rfl⟩
 rintro ⟨x24, A25, k26, hs27⟩ w64 ⟨hv, hS⟩; have hv := hk66 x24 hv; refine Je 2 <| Jd (off := 0) JK rfl rfl <| Jo 3 0 XU3 hS rfl rfl rfl ⟨rfl, rfl⟩ <| Jp rfl rfl <| JQ (cells := #[nI Ca, nS A25 x24 k26]) QP rfl rfl rfl <| Js (cs := [nI Ca, nS A25 x24 k26]) 1 hS rfl Ju rfl rfl rfl rfl rfl ?_; intro w65 hS; refine Jb 2 <| W.ret ?_
 repeat with_reducible first | refine blk.ret ?_ | refine exits.retI ?_
 refine endC.mk ⟨[.agg #[nI Ca, nS A25 x24 k26], nI 0], ⟨_, _, _, rfl, rfl, JE (cs := [nI Ca, nS A25 x24 k26]) Ju JL rfl (Jc (hS.own (i := 1) rfl)), ⟨_, _, rfl, rfl, rfl⟩⟩, ?_⟩; exact (hS.pick [0] rfl).fin rfl ⟨Ca, x24, (0 : Int), A25, k26, hs27, rfl, rfl, hv⟩
end Go.Proofs.YtngdhnijkgjhcaaGreat
namespace Go.Proofs.YtngdhnijkgjhcaaGreat
open Go.RowKit
def Jkd (Pf : Int) (Mf : Int) (mf : List Int) (Ca : Int) (a : List (List Int)) (Cb : Int) (b : List (List Int)) (Q : Bool -> Prop) : Prop :=
  Jby  (fun r18 => (((!r18) = true) -> (Jby  (fun r21 => Q r21))) /\ ((!r18) = false -> (Jsh Ca a Cb b (fun r23 => (((!r23) = true) -> (Jby  (fun r26 => Q r26))) /\ ((!r23) = false -> (Jir Pf Mf mf Ca a Cb b (fun q => match q with | (c28, x29, r30) => Jdq Pf Mf mf Ca a Cb b (fun q => match q with | (c39, x40, r41) => ((r30 ≠ r41) -> Q false) /\ (¬ (r30 ≠ r41) -> (Jas c28 x29 c39 x40 (fun r51 => (((!r51) = true) -> Q false) /\ ((!r51) = false -> (Jev Pf Mf mf Ca a Cb b (fun q => match q with | (c54, x55, r56) => Jbd Pf Mf mf Ca a Cb b (fun q => match q with | (c63, x64, r65) => ((r56 ≠ r65) -> Q false) /\ (¬ (r56 ≠ r65) -> (Jas c54 x55 c63 x64 (fun r73 => (((!r73) = true) -> Q false) /\ ((!r73) = false -> (Jct Pf Mf mf Ca a (fun q => match q with | (c76, x77, r78) => ZN Pf Mf mf Ca a (fun q => match q with | (c85, x86, r87) => (r78 = r87) /\ ((Jas c76 x77 c85 x86 (fun q => q = true)) /\ (∃ (r109 : Int), QS Pf Mf mf Ca a (fun q => q = r109) /\ (∃ (r115 : Int), Yc Pf Mf mf Ca a (fun q => q = r115) /\ (Q (decide (r109 = r115))))))))))))))))))))))))))))
theorem Jya {w : World} {Q : Bool -> Prop} {Pf : Int} {Mf : Int} {mf : List Int} {Ca : Int} {a : List (List Int)} {Cb : Int} {b : List (List Int)} {Bf : Nat} {Af : Option Addr} {nf kf : Nat} (hf : Rd Bf w 1 Af nf kf (is mf)) {Aa : Option Addr} {na ka : Nat} (ha : Rl w Aa na ka a) {Ab : Option Addr} {nb kb : Nat} (hb : Rl w Ab nb kb b) (hv : Jkd Pf Mf mf Ca a Cb b Q) :
   Calls Tryz.prog 3 #[.agg #[.int .i64 Pf, .int .i64 Mf, .slice Af nf kf], .agg #[.int .i64 Ca, .slice Aa na ka], .agg #[.int .i64 Cb, .slice Ab nb kb]] w fun e w' => ∃ v Qr, e = .returned v /\ w.grownBy w' none /\ Rows w.heap.size none w' Qr /\ News w.heap.size Qr /\ ∃ (r0 : Bool), v = .bool r0 /\ Qr = [] /\ Q r0 := by
 have hnf := hf.ilen; subst hnf; have hna := ha.len; subst hna; obtain ⟨hsa, hHa⟩ := ha.heads; have hnb := hb.len; subst hnb; obtain ⟨hsb, hHb⟩ := hb.heads; refine Jk <| Jl (vs := [.agg #[nI Pf, nI Mf, nS Af mf kf], .agg #[nI Ca, nS Aa a ka], .agg #[nI Cb, nS Ab b kb]]) [6] XF3 rfl rfl rfl rfl ?_; have hS := Jr w; unfold Jkd at hv; refine Je 2 <| Jz (z := 3) (cs := [nI Pf, nI Mf, nS Af mf kf]) hS rfl rfl rfl rfl ?_; intro g11 w12 hS; refine Jz (z := 2) (cs := [nI Ca, nS Aa a ka]) hS rfl rfl rfl rfl ?_; intro g13 w14 hS; refine Jz (z := 2) (cs := [nI Cb, nS Ab b kb]) hS rfl rfl rfl rfl ?_; intro g15 w16 hS; refine Jb 2 <| Je 3 <| SL.call hS (Jgr  hv) XF11 rfl XN11 rfl rfl ?_; rintro _ _ w17 ⟨r18, rfl, rfl, hv⟩ hGw17 hS; have hS := hS.n0; refine Jco rfl rfl <| Jp rfl rfl ?_; rcases g19 : (!r18) with _ | _
 .have hv := hv.2 g19; refine WL.take rfl <| Jg (cs := [nI Ca, nS Aa a ka]) Ju JL rfl rfl (Jc (hS.own (i := 1) rfl)) rfl <| WL.take rfl <| Jg (cs := [nI Cb, nS Ab b kb]) Ju JL rfl rfl (Jc (hS.own (i := 0) rfl)) rfl <| WL.take rfl <| SL.call hS (ok_few (RlH.rl (RlH.ext hHa hS.ext)) (RlH.rl (RlH.ext hHb hS.ext)) hv) XF12 rfl XN12 rfl rfl ?_; rintro _ _ w22 ⟨r23, rfl, rfl, hv⟩ hGw22 hS; have hS := hS.n0; refine Jb 4 <| Ji rfl (fun c24 => ?_) (fun c24 => ?_)
  .have hv := hv.1 (c24); refine Je 2 <| SL.call hS (Jgr  hv) XF11 rfl XN11 rfl rfl ?_; rintro _ _ w25 ⟨r26, rfl, rfl, hv⟩ hGw25 hS; have hS := hS.n0; refine Jb 2 <| W.ret <| ⟨_, rfl, Fin.nil ?_⟩
   exact (hS.pick [] rfl).fin rfl ⟨r26, rfl, rfl, hv⟩
  have hv := hv.2 (c24); refine Jn <| Je 2 <| Jg (cs := [nI Pf, nI Mf, nS Af mf kf]) JO JP rfl rfl (Jc (hS.own (i := 2) rfl)) rfl <| Jg (cs := [nI Ca, nS Aa a ka]) Ju JL rfl rfl (Jc (hS.own (i := 1) rfl)) rfl <| Jg (cs := [nI Cb, nS Ab b kb]) Ju JL rfl rfl (Jc (hS.own (i := 0) rfl)) rfl <| SL.call hS (Jx8 (hS.ro hf) (RlH.rl (RlH.ext hHa hS.ext)) (RlH.rl (RlH.ext hHb hS.ext)) hv) XF13 rfl XN13 rfl rfl ?_; rintro _ _ w27 ⟨c28, x29, r30, A31, k32, hs33, rfl, rfl, hv⟩ hGw27 hS; have hS := hS.n1; refine Jb 3 <| SL.alloc (cs := [nI 0, .slice none 0 0]) hS Ju rfl rfl ?_; intro g35 w36 hS; refine Js (cs := [nI c28, nS A31 x29 k32]) 0 hS rfl Ju rfl rfl rfl rfl rfl ?_; intro w37 hS; refine Jb 2 <| Je 2 <| Jg (cs := [nI Pf, nI Mf, nS Af mf kf]) JO JP rfl rfl (Jc (hS.own (i := 4) rfl)) rfl <| Jg (cs := [nI Ca, nS Aa a ka]) Ju JL rfl rfl (Jc (hS.own (i := 3) rfl)) rfl <| Jg (cs := [nI Cb, nS Ab b kb]) Ju JL rfl rfl (Jc (hS.own (i := 2) rfl)) rfl <| SL.call hS (Jx3 (hS.ro hf) (RlH.rl (RlH.ext hHa hS.ext)) (RlH.rl (RlH.ext hHb hS.ext)) hv) XF14 rfl XN14 rfl rfl ?_; rintro _ _ w38 ⟨c39, x40, r41, A42, k43, hs44, rfl, rfl, hv⟩ hGw38 hS; have hS := hS.n1; refine Jb 3 <| SL.alloc (cs := [nI 0, .slice none 0 0]) hS Ju rfl rfl ?_; intro g46 w47 hS; refine Js (cs := [nI c39, nS A42 x40 k43]) 0 hS rfl Ju rfl rfl rfl rfl rfl ?_; intro w48 hS; refine Jb 2 <| Je 6 <| Jp rfl rfl ?_; by_cases g49 : r30 ≠ r41
  .have hv := hv.1 g49; rw [decide_eq_true g49]; refine Jb 6 <| Ql rfl <| Je 4 <| W.ret <| ⟨_, rfl, Fin.nil ?_⟩
   exact (hS.pick [] rfl).fin rfl ⟨false, rfl, rfl, hv⟩
  have hv := hv.2 g49; rw [decide_eq_false g49]; refine WL.take rfl <| Jg (cs := [nI c28, nS A31 x29 k32]) Ju JL rfl rfl (Jc (hS.own (i := 2) rfl)) rfl <| WL.take rfl <| Jg (cs := [nI c39, nS A42 x40 k43]) Ju JL rfl rfl (Jc (hS.own (i := 0) rfl)) rfl <| WL.take rfl <| SL.call hS (Jgn (hS.rl (i := 3) rfl) (hS.rl (i := 1) rfl) hv) XF15 rfl XN15 rfl rfl ?_; rintro _ _ w50 ⟨r51, rfl, rfl, hv⟩ hGw50 hS; have hS := hS.n0; refine Jb 4 <| Ji rfl (fun c52 => ?_) (fun c52 => ?_)
  .have hv := hv.1 (c52); refine Je 4 <| W.ret <| ⟨_, rfl, Fin.nil ?_⟩
   exact (hS.pick [] rfl).fin rfl ⟨false, rfl, rfl, hv⟩
  have hv := hv.2 (c52); refine Jn <| Je 2 <| Jg (cs := [nI Pf, nI Mf, nS Af mf kf]) JO JP rfl rfl (Jc (hS.own (i := 6) rfl)) rfl <| Jg (cs := [nI Ca, nS Aa a ka]) Ju JL rfl rfl (Jc (hS.own (i := 5) rfl)) rfl <| Jg (cs := [nI Cb, nS Ab b kb]) Ju JL rfl rfl (Jc (hS.own (i := 4) rfl)) rfl <| SL.call hS (Jrc (hS.ro hf) (RlH.rl (RlH.ext hHa hS.ext)) (RlH.rl (RlH.ext hHb hS.ext)) hv) XF16 rfl XN16 rfl rfl ?_; rintro _ _ w53 ⟨c54, x55, r56, A57, k58, hs59, rfl, rfl, hv⟩ hGw53 hS; have hS := hS.n1; refine Jb 3 <| Js (cs := [nI c54, nS A57 x55 k58]) 3 hS rfl Ju rfl rfl rfl rfl rfl ?_; intro w61 hS; refine Jb 2 <| Je 2 <| Jg (cs := [nI Pf, nI Mf, nS Af mf kf]) JO JP rfl rfl (Jc (hS.own (i := 7) rfl)) rfl <| Jg (cs := [nI Ca, nS Aa a ka]) Ju JL rfl rfl (Jc (hS.own (i := 6) rfl)) rfl <| Jg (cs := [nI Cb, nS Ab b kb]) Ju JL rfl rfl (Jc (hS.own (i := 5) rfl)) rfl <| SL.call hS (Js0 (hS.ro hf) (RlH.rl (RlH.ext hHa hS.ext)) (RlH.rl (RlH.ext hHb hS.ext)) hv) XF17 rfl XN17 rfl rfl ?_; rintro _ _ w62 ⟨c63, x64, r65, A66, k67, hs68, rfl, rfl, hv⟩ hGw62 hS; have hS := hS.n1; refine Jb 3 <| Js (cs := [nI c63, nS A66 x64 k67]) 2 hS rfl Ju rfl rfl rfl rfl rfl ?_; intro w70 hS; refine Jb 2 <| Je 6 <| Jp rfl rfl ?_; by_cases g71 : r56 ≠ r65
  .have hv := hv.1 g71; rw [decide_eq_true g71]; refine Jb 6 <| Ql rfl <| Je 4 <| W.ret <| ⟨_, rfl, Fin.nil ?_⟩
   exact (hS.pick [] rfl).fin rfl ⟨false, rfl, rfl, hv⟩
  have hv := hv.2 g71; rw [decide_eq_false g71]; refine WL.take rfl <| Jg (cs := [nI c54, nS A57 x55 k58]) Ju JL rfl rfl (Jc (hS.own (i := 4) rfl)) rfl <| WL.take rfl <| Jg (cs := [nI c63, nS A66 x64 k67]) Ju JL rfl rfl (Jc (hS.own (i := 2) rfl)) rfl <| WL.take rfl <| SL.call hS (Jgn (hS.rl (i := 1) rfl) (hS.rl (i := 0) rfl) hv) XF15 rfl XN15 rfl rfl ?_; rintro _ _ w72 ⟨r73, rfl, rfl, hv⟩ hGw72 hS; have hS := hS.n0; refine Jb 4 <| Ji rfl (fun c74 => ?_) (fun c74 => ?_)
  .have hv := hv.1 (c74); refine Je 4 <| W.ret <| ⟨_, rfl, Fin.nil ?_⟩
   exact (hS.pick [] rfl).fin rfl ⟨false, rfl, rfl, hv⟩
  have hv := hv.2 (c74); refine Jn <| Je 2 <| Jg (cs := [nI Pf, nI Mf, nS Af mf kf]) JO JP rfl rfl (Jc (hS.own (i := 8) rfl)) rfl <| Jg (cs := [nI Ca, nS Aa a ka]) Ju JL rfl rfl (Jc (hS.own (i := 7) rfl)) rfl <| SL.call hS (Jrd (hS.ro hf) (RlH.rl (RlH.ext hHa hS.ext)) hv) XF18 rfl XN18 rfl rfl ?_; rintro _ _ w75 ⟨c76, x77, r78, A79, k80, hs81, rfl, rfl, hv⟩ hGw75 hS; have hS := hS.n1; refine Jb 3 <| Js (cs := [nI c76, nS A79 x77 k80]) 5 hS rfl Ju rfl rfl rfl rfl rfl ?_; intro w83 hS; refine Jb 2 <| Je 2 <| Jg (cs := [nI Pf, nI Mf, nS Af mf kf]) JO JP rfl rfl (Jc (hS.own (i := 9) rfl)) rfl <| Jg (cs := [nI Ca, nS Aa a ka]) Ju JL rfl rfl (Jc (hS.own (i := 8) rfl)) rfl <| SL.call hS (Js1 (hS.ro hf) (RlH.rl (RlH.ext hHa hS.ext)) hv) XF19 rfl XN19 rfl rfl ?_; rintro _ _ w84 ⟨c85, x86, r87, A88, k89, hs90, rfl, rfl, hv⟩ hGw84 hS; have hS := hS.n1; refine Jb 3 <| Js (cs := [nI c85, nS A88 x86 k89]) 4 hS rfl Ju rfl rfl rfl rfl rfl ?_; intro w92 hS; refine Jb 2 <| Jy ?_; obtain ⟨o96, hv⟩ := hv; obtain ⟨o103, hv⟩ := hv; obtain ⟨r109, o111, hv⟩ := hv; obtain ⟨r115, o117, hv⟩ := hv; refine JY 18 [⟨[], [8], true⟩, ⟨[], [10], true⟩, ⟨[0, 1], [], true⟩, ⟨[2], [], true⟩, ⟨[3], [7], false⟩, ⟨[3], [9], false⟩, ⟨[3, 4, 5], [], false⟩, ⟨[3, 6], [], true⟩, ⟨[7], [], true⟩, ⟨[8], [3], false⟩, ⟨[8], [4], false⟩, ⟨[8, 9, 10], [], false⟩, ⟨[8], [3], false⟩, ⟨[8], [4], false⟩, ⟨[8, 12, 13], [], false⟩, ⟨[8, 11, 14], [], true⟩, ⟨[8, 15], [], true⟩, ⟨[16], [], true⟩] [(78, nI r78), (79, nI r87), (80, .bool true), (81, .bool true), (82, .agg #[nI c76, nS A79 x77 k80]), (83, .agg #[nI c85, nS A88 x86 k89]), (84, .bool true), (85, .bool true), (86, .bool true), (87, .agg #[nI Pf, nI Mf, nS Af mf kf]), (88, .agg #[nI Ca, nS Aa a ka]), (89, nI r109), (90, .agg #[nI Pf, nI Mf, nS Af mf kf]), (91, .agg #[nI Ca, nS Aa a ka]), (92, nI r115), (93, .bool (decide (r109 = r115))), (94, .bool (decide (r109 = r115))), (6, .bool (decide (r109 = r115)))] Jv (by kernel_rfl) rfl rfl ?_ ?_
  . refine ⟨oA fun _ => rfl, oA fun _ => rfl, ?_, oA fun _ => rfl, fun _ hE _ => have hS := hS.grow (hE rfl); WL.take rfl <| Jg (cs := [nI c76, nS A79 x77 k80]) Ju JL rfl rfl (Jc (hS.own (i := 6) rfl)) rfl <| Ja ⟨rfl, Jf _⟩, fun _ hE _ => have hS := hS.grow (hE rfl); WL.take rfl <| Jg (cs := [nI c85, nS A88 x86 k89]) Ju JL rfl rfl (Jc (hS.own (i := 4) rfl)) rfl <| Ja ⟨rfl, Jf _⟩, ?_, oA fun _ => rfl, oA fun _ => rfl, fun _ hE _ => have hS := hS.grow (hE rfl); WL.take rfl <| Jg (cs := [nI Pf, nI Mf, nS Af mf kf]) JO JP rfl rfl (Jc (hS.own (i := 10) rfl)) rfl <| Ja ⟨rfl, Jf _⟩, fun _ hE _ => have hS := hS.grow (hE rfl); WL.take rfl <| Jg (cs := [nI Ca, nS Aa a ka]) Ju JL rfl rfl (Jc (hS.own (i := 9) rfl)) rfl <| Ja ⟨rfl, Jf _⟩, ?_, fun _ hE _ => have hS := hS.grow (hE rfl); WL.take rfl <| Jg (cs := [nI Pf, nI Mf, nS Af mf kf]) JO JP rfl rfl (Jc (hS.own (i := 10) rfl)) rfl <| Ja ⟨rfl, Jf _⟩, fun _ hE _ => have hS := hS.grow (hE rfl); WL.take rfl <| Jg (cs := [nI Ca, nS Aa a ka]) Ju JL rfl rfl (Jc (hS.own (i := 9) rfl)) rfl <| Ja ⟨rfl, Jf _⟩, ?_, oA fun _ => rfl, oA fun _ => rfl, oA fun _ => rfl, trivial⟩
    .intro w95 hE RR; refine Jap rfl rfl rfl ?_; rw [decide_eq_true o96]; exact Ja ⟨rfl, rfl⟩
    .intro w100 hE RR; have hS := hS.grow (hE rfl); refine WL.take rfl <| WL.call XF15 rfl XN15 rfl rfl (JI (Jgn (hS.rl (i := 1) rfl) (hS.rl (i := 0) rfl) o103)) ?_; rintro _ w102 ⟨_, hGw102, hRww102, hNww102, r101, rfl, rfl, he⟩; subst he; exact Ja ⟨rfl, hGw102⟩
    .intro w108 hE RR; have hS := hS.grow (hE rfl); refine WL.take rfl <| WL.call Jmo rfl Jo1 rfl rfl (JI (YF (hS.ro hf) (RlH.rl (RlH.ext hHa hS.ext)) o111)) ?_; rintro _ w110 ⟨_, hGw110, hRww110, hNww110, r109q, rfl, rfl, he⟩; subst he; exact Ja ⟨rfl, hGw110⟩
    intro w114 hE RR; have hS := hS.grow (hE rfl); refine WL.take rfl <| WL.call XF21 rfl XN21 rfl rfl (JI (Z5 (hS.ro hf) (RlH.rl (RlH.ext hHa hS.ext)) o117)) ?_; rintro _ w116 ⟨_, hGw116, hRww116, hNww116, r115q, rfl, rfl, he⟩; subst he; exact Ja ⟨rfl, hGw116⟩
  intro w121 hT; have hS := hS.grow hT; refine JJ <| W.ret <| ⟨_, rfl, Fin.nil ?_⟩
  exact (hS.pick [] rfl).fin rfl ⟨(decide (r109 = r115)), rfl, rfl, hv⟩
 have hv := hv.1 g19; refine Jb 6 <| Ql rfl <| Je 2 <| SL.call hS (Jgr  hv) XF11 rfl XN11 rfl rfl ?_; rintro _ _ w20 ⟨r21, rfl, rfl, hv⟩ hGw20 hS; have hS := hS.n0; refine Jb 2 <| W.ret <| ⟨_, rfl, Fin.nil ?_⟩
 exact (hS.pick [] rfl).fin rfl ⟨r21, rfl, rfl, hv⟩
end Go.Proofs.YtngdhnijkgjhcaaGreat
namespace Go.Proofs.YtngdhnijkgjhcaaGreat
open Go.RowKit
end Go.Proofs.YtngdhnijkgjhcaaGreat
namespace Go.Proofs.YtngdhnijkgjhcaaGreat
abbrev Vec := Nat -> Int
def tX (m : Nat) (c : Vec) (v : Vec) : Vec := fun i => if i < m then (if i = 0 then 0 else v (i - 1)) - c i * v (m - 1) else 0
def Qa (u v : Vec) : Vec := fun i => u i + v i
def vsm (a : Int) (v : Vec) : Vec := fun i => a * v i
def vz : Vec := fun _ => 0
def e0 : Vec := fun i => if i = 0 then 1 else 0
def tXn (m : Nat) (c : Vec) : Nat -> Vec -> Vec
  | 0, v => v
  | n + 1, v => tX m c (tXn m c n v)
def opr (m : Nat) (c b : Vec) : Nat -> Vec -> Vec
  | 0, _ => vz
  | n + 1, v => Qa (opr m c b n v) (vsm (b n) (tXn m c n v))
def YE (m : Nat) (c a b : Vec) : Vec := opr m c b m a
section
variable (m : Nat) (c : Vec)
theorem tX_add (u v : Vec) : tX m c (Qa u v) = Qa (tX m c u) (tX m c v) := by
 funext i; simp only [tX, Qa]; split
 .split <;> grind
 .rfl
theorem tX_sm (a : Int) (v : Vec) : tX m c (vsm a v) = vsm a (tX m c v) := by
 funext i; simp only [tX, vsm]; split
 .split <;> grind
 .grind
theorem tX_z : tX m c vz = vz := by funext i; simp [tX, vz]
theorem Jcg (u : Vec) : Qa u vz = u := by funext i; simp [Qa, vz]
theorem z_vadd (u : Vec) : Qa vz u = u := by funext i; simp [Qa, vz]
theorem Jh5 (u v : Vec) : Qa u v = Qa v u := by funext i; simp only [Qa]; omega
theorem ZY (u v w : Vec) : Qa (Qa u v) w = Qa u (Qa v w) := by funext i; simp only [Qa]; omega
theorem Jfe (a : Int) (u v : Vec) : vsm a (Qa u v) = Qa (vsm a u) (vsm a v) := by funext i; simp only [Qa, vsm]; grind
theorem Jiv (a b : Int) (u : Vec) : vsm a (vsm b u) = vsm (a * b) u := by funext i; simp only [vsm]; grind
theorem Jqv (a : Int) : vsm a vz = vz := by funext i; simp [vsm, vz]
theorem Jc1 (n : Nat) (u v : Vec) : tXn m c n (Qa u v) = Qa (tXn m c n u) (tXn m c n v) := by
 induction n with
 | zero => rfl
 | succ n ih => simp only [tXn, ih, tX_add]
theorem Jd4 (n : Nat) (a : Int) (v : Vec) : tXn m c n (vsm a v) = vsm a (tXn m c n v) := by
 induction n with
 | zero => rfl
 | succ n ih => simp only [tXn, ih, tX_sm]
theorem Jk0 (n : Nat) : tXn m c n vz = vz := by
 induction n with
 | zero => rfl
 | succ n ih => simp only [tXn, ih, tX_z]
theorem Jxd (n : Nat) (v : Vec) : tXn m c n (tX m c v) = tX m c (tXn m c n v) := by
 induction n with
 | zero => rfl
 | succ n ih => simp only [tXn, ih]
theorem Jfi (n k : Nat) (v : Vec) : tXn m c n (tXn m c k v) = tXn m c (n + k) v := by
 induction n with
 | zero => simp [tXn]
 | succ n ih => rw [Nat.succ_add]; simp only [tXn, ih]
variable (b : Vec)
theorem Jq8 (n : Nat) (u v : Vec) : opr m c b n (Qa u v) = Qa (opr m c b n u) (opr m c b n v) := by
 induction n with
 | zero => simp [opr, Jcg]
 | succ n ih => simp only [opr, ih, Jc1, Jfe]; funext i; simp only [Qa]; omega
theorem Jnx (n : Nat) (a : Int) (v : Vec) : opr m c b n (vsm a v) = vsm a (opr m c b n v) := by
 induction n with
 | zero => simp [opr, Jqv]
 | succ n ih => simp only [opr, ih, Jd4, Jfe, Jiv]; rw [Int.mul_comm (b n) a]
theorem opr_z (n : Nat) : opr m c b n vz = vz := by
 induction n with
 | zero => rfl
 | succ n ih => simp only [opr, ih, Jk0, Jqv, Jcg]
theorem Jq7 (n k : Nat) (v : Vec) : opr m c b n (tXn m c k v) = tXn m c k (opr m c b n v) := by
 induction n with
 | zero => simp [opr, Jk0]
 | succ n ih => simp only [opr, ih, Jc1, Jd4, Jfi]; rw [Nat.add_comm n k]
theorem Jld (d : Vec) (n k : Nat) (v : Vec) : opr m c b n (opr m c d k v) = opr m c d k (opr m c b n v) := by
 induction n with
 | zero => simp only [opr, opr_z]
 | succ n ih => simp only [opr, ih, Jq8, Jnx, Jq7]
theorem Jx0 (d : Vec) (n : Nat) (v : Vec) : opr m c (Qa b d) n v = Qa (opr m c b n v) (opr m c d n v) := by
 induction n with
 | zero => simp [opr, Jcg]
 | succ n ih => simp only [opr, ih]; funext i; simp only [Qa, vsm]; grind
end
def vei (k : Nat) : Vec := fun i => if i = k then 1 else 0
theorem Jnn {m : Nat} {c : Vec} : ∀ {k : Nat}, k < m -> tXn m c k e0 = vei k
 | 0, _ => rfl
 | k + 1, h => by
  have ih : tXn m c k e0 = vei k := Jnn (by omega); simp only [tXn, ih]; funext i; simp only [tX, vei]; split
  .rw [if_neg (show ¬ m - 1 = k by omega)]; by_cases h0 : i = 0
   .subst h0; simp
   .simp only [h0, if_false]; by_cases h1 : i = k + 1
    .subst h1; simp
    .rw [if_neg (by omega), if_neg h1]; simp
  .rw [if_neg (by omega)]
theorem Jje {m : Nat} {c a : Vec} : ∀ {n : Nat}, n <= m -> ∀ i, opr m c a n e0 i = if i < n then a i else 0
  | 0, _, i => by simp [opr, vz]
  | n + 1, h, i => by
    simp only [opr, Qa, vsm]
    rw [Jje (n := n) (by omega) i, Jnn (by omega)]
    simp only [vei]
    by_cases h1 : i = n
    . subst h1; simp
    . by_cases h2 : i < n
      . simp [h2, h1, show i < n + 1 by omega]
      . simp [h2, h1, show ¬ i < n + 1 by omega]
def Sup (m : Nat) (v : Vec) : Prop := ∀ i, m <= i -> v i = 0
theorem ZG {m : Nat} {c a : Vec} (h : Sup m a) : opr m c a m e0 = a := by
 funext i; rw [Jje (Nat.le_refl m)]; split
 .rfl
 .exact (h i (by omega)).symm
theorem Sup.z {m : Nat} : Sup m vz := fun _ _ => rfl
theorem Sup.tX {m : Nat} {c v : Vec} : Sup m (tX m c v) := fun i h => by simp [Go.Proofs.YtngdhnijkgjhcaaGreat.tX, show ¬ i < m by omega]
theorem Sup.add {m : Nat} {u v : Vec} (hu : Sup m u) (hv : Sup m v) : Sup m (Qa u v) := fun i h => by simp [Qa, hu i h, hv i h]
theorem Sup.sm {m : Nat} {a : Int} {v : Vec} (hv : Sup m v) : Sup m (vsm a v) := fun i h => by simp [vsm, hv i h]
theorem Sup.tXn {m : Nat} {c v : Vec} (hv : Sup m v) : ∀ n, Sup m (tXn m c n v)
 | 0 => hv
 | _ + 1 => Sup.tX
theorem Sup.opr {m : Nat} {c b v : Vec} (hv : Sup m v) : ∀ n, Sup m (opr m c b n v)
 | 0 => Sup.z
 | n + 1 => (Sup.opr hv n).add (hv.tXn n).sm
theorem Jbh {m : Nat} {c a b : Vec} (ha : Sup m a) (hb : Sup m b) : YE m c a b = YE m c b a := by
 unfold YE
 calc opr m c b m a = opr m c b m (opr m c a m e0) := by rw [ZG ha]
  _ = opr m c a m (opr m c b m e0) := Jld ..
  _ = opr m c a m b := by rw [ZG hb]
theorem Jni {m : Nat} {c a b d : Vec} (ha : Sup m a) (hb : Sup m b) (hd : Sup m d) : YE m c (YE m c a b) d = YE m c a (YE m c b d) := by
 rw [Jbh (a := a) (b := YE m c b d) ha (Sup.opr hb m)]; show opr m c d m (opr m c b m a) = opr m c a m (opr m c d m b); rw [<- Jld m c d a m m b]; show opr m c d m (YE m c a b) = opr m c d m (YE m c b a); rw [Jbh ha hb]
theorem Jwz {m : Nat} {c a b d : Vec} : YE m c a (Qa b d) = Qa (YE m c a b) (YE m c a d) := Jx0 ..
theorem Jwy {m : Nat} {c a : Vec} (hm : 0 < m) : YE m c a e0 = a := by
 have key : ∀ n, 0 < n -> opr m c e0 n a = a := by
  intro n
  induction n with
  | zero => intro h; omega
  | succ n ih =>
   intro _; rcases Nat.eq_zero_or_pos n with h | h
   .subst h; funext i; simp [opr, e0, Qa, vsm, vz, tXn]
   .simp only [opr, ih h]; funext i; simp [e0, Qa, vsm, show n ≠ 0 by omega]
 exact key m hm
def vcg (p : Int) (u v : Vec) : Prop := ∀ i, u i % p = v i % p
section
variable {p : Int} {m : Nat} {c c' u u' v v' b b' : Vec}
theorem vcg.refl (u : Vec) : vcg p u u := fun _ => rfl
theorem vcg.symm (h : vcg p u v) : vcg p v u := fun i => (h i).symm
theorem vcg.trans {w : Vec} (h : vcg p u v) (k : vcg p v w) : vcg p u w := fun i => (h i).trans (k i)
theorem Jei {a a' d d' : Int} (h : a % p = a' % p) (k : d % p = d' % p) : (a * d) % p = (a' * d') % p := by
 rw [Int.mul_emod, h, k, <- Int.mul_emod]
theorem Jer {a a' d d' : Int} (h : a % p = a' % p) (k : d % p = d' % p) : (a + d) % p = (a' + d') % p := by
 rw [Int.add_emod, h, k, <- Int.add_emod]
theorem Jno {a a' d d' : Int} (h : a % p = a' % p) (k : d % p = d' % p) : (a - d) % p = (a' - d') % p := by
 rw [Int.sub_emod, h, k, <- Int.sub_emod]
theorem vcg.add (h : vcg p u u') (k : vcg p v v') : vcg p (Qa u v) (Qa u' v') := fun i => Jer (h i) (k i)
theorem vcg.sm {a a' : Int} (ha : a % p = a' % p) (h : vcg p u u') : vcg p (vsm a u) (vsm a' u') := fun i => Jei ha (h i)
theorem vcg.tX (hc : vcg p c c') (h : vcg p u u') : vcg p (tX m c u) (tX m c' u') := fun i => by
 simp only [Go.Proofs.YtngdhnijkgjhcaaGreat.tX]; split
 .split
  .exact Jno rfl (Jei (hc i) (h _))
  .exact Jno (h _) (Jei (hc i) (h _))
 .rfl
theorem vcg.tXn (hc : vcg p c c') (h : vcg p u u') : ∀ n, vcg p (tXn m c n u) (tXn m c' n u')
 | 0 => h
 | n + 1 => vcg.tX hc (vcg.tXn hc h n)
theorem vcg.opr (hc : vcg p c c') (hb : vcg p b b') (h : vcg p u u') : ∀ n, vcg p (opr m c b n u) (opr m c' b' n u')
 | 0 => .refl _
 | n + 1 => (vcg.opr hc hb h n).add (vcg.sm (hb n) (vcg.tXn hc h n))
theorem vcg.mul (hc : vcg p c c') (h : vcg p u u') (hb : vcg p b b') : vcg p (YE m c u b) (YE m c' u' b') := vcg.opr hc hb h m
end
end Go.Proofs.YtngdhnijkgjhcaaGreat
namespace Go.Proofs.YtngdhnijkgjhcaaGreat
def dv (p x : Nat) : Vec := fun i => ((x / p ^ i % p : Nat) : Int)
def vl (p : Nat) : Nat -> Vec -> Int
  | 0, _ => 0
  | n + 1, v => v 0 + (p : Int) * vl p n (fun i => v (i + 1))
def Cn (p n : Nat) (v : Vec) : Prop := ∀ i, i < n -> 0 <= v i /\ v i < p
def nm (p m : Nat) (v : Vec) : Nat := (vl p m (fun i => v i % (p : Int))).toNat
theorem Jak (p x i : Nat) : dv p x (i + 1) = dv p (x / p) i := by
 simp only [dv]; rw [Nat.pow_succ', <- Nat.div_div_eq_div_mul]
theorem Zp (p x : Nat) : dv p x 0 = ((x % p : Nat) : Int) := by simp [dv]
theorem Cn.tl {p n : Nat} {v : Vec} (h : Cn p (n + 1) v) : Cn p n (fun i => v (i + 1)) := fun i hi => h (i + 1) (by omega)
theorem Jqw {p : Nat} (hp : 0 < p) : ∀ {n : Nat} {v : Vec}, Cn p n v -> 0 <= vl p n v /\ vl p n v < ((p ^ n : Nat) : Int)
 | 0, v, _ => by simp [vl]
 | n + 1, v, h => by
  have ih := Jqw hp h.tl; have h0 := h 0 (by omega); simp only [vl]; have h1 : (p : Int) * vl p n (fun i => v (i + 1)) <= p * (((p ^ n : Nat) : Int) - 1) := Int.mul_le_mul_of_nonneg_left (by omega) (by omega); have h2 : 0 <= (p : Int) * vl p n (fun i => v (i + 1)) := Int.mul_nonneg (by omega) ih.1; have h3 : ((p ^ (n + 1) : Nat) : Int) = p * ((p ^ n : Nat) : Int) := by rw [Nat.pow_succ']; push_cast; rfl
  have h4 : (p : Int) * (((p ^ n : Nat) : Int) - 1) = p * ((p ^ n : Nat) : Int) - p := by rw [Int.mul_sub, Int.mul_one]
  omega
theorem Jf6 {p : Nat} : ∀ {n : Nat} {u v : Vec}, (∀ i, i < n -> u i = v i) -> vl p n u = vl p n v
 | 0, _, _, _ => rfl
 | n + 1, u, v, h => by simp only [vl]; rw [h 0 (by omega), Jf6 (n := n) fun i hi => h (i + 1) (by omega)]
theorem Jw0 {p : Nat} (hp : 0 < p) : ∀ {n x : Nat}, x < p ^ n -> vl p n (dv p x) = x
 | 0, x, h => by simp at h; subst h; rfl
 | n + 1, x, h => by
  simp only [vl]; have : (fun i => dv p x (i + 1)) = dv p (x / p) := by funext i; exact Jak p x i
  rw [this, Jw0 hp (n := n) (by rw [Nat.div_lt_iff_lt_mul hp, <- Nat.pow_succ]; exact h), Zp]; have := Nat.mod_add_div x p; have h2 : ((x % p + p * (x / p) : Nat) : Int) = (x : Int) := by rw [this]
  push_cast at h2 ⊢; exact h2
theorem dv_vl {p : Nat} (hp : 0 < p) : ∀ {n : Nat} {v : Vec}, Cn p n v -> ∀ i, i < n -> dv p (vl p n v).toNat i = v i
 | 0, _, _, i, hi => by omega
 | n + 1, v, h, i, hi => by
  have ih := Jqw hp h.tl; have h0 := h 0 (by omega); obtain ⟨t, ht⟩ := Int.eq_ofNat_of_zero_le ih.1; obtain ⟨a, ha⟩ := Int.eq_ofNat_of_zero_le h0.1; have hv : (vl p (n + 1) v).toNat = a + p * t := by
   simp only [vl]; rw [ht, ha]; have : (a : Int) + (p : Int) * (t : Int) = ((a + p * t : Nat) : Int) := by push_cast; rfl
   rw [this]; rfl
  have hap : a < p := by have := h0.2; rw [ha] at this; omega
  rw [hv]; cases i with
  | zero => rw [Zp, Nat.add_mul_mod_self_left, Nat.mod_eq_of_lt hap, ha]
  | succ i =>
   rw [Jak]; have h2 : (a + p * t) / p = t := by rw [Nat.add_mul_div_left _ _ hp, Nat.div_eq_of_lt hap, Nat.zero_add]
   have ih2 := dv_vl hp h.tl i (by omega); rw [ht] at ih2; rw [h2]; exact ih2
section
variable {p m : Nat}
theorem md_cn (hp : 0 < p) (v : Vec) (n : Nat) : Cn p n (fun i => v i % (p : Int)) := fun i _ => ⟨Int.emod_nonneg _ (by omega), Int.emod_lt_of_pos _ (by omega)⟩
theorem Jb9 (hp : 0 < p) (v : Vec) : nm p m v < p ^ m := by
 have := Jqw hp (md_cn hp v m); unfold nm; omega
theorem Jrq (hp : 0 < p) (v : Vec) {i : Nat} (hi : i < m) : dv p (nm p m v) i = v i % (p : Int) := dv_vl hp (md_cn hp v m) i hi
theorem Jik (hp : 0 < p) (x n : Nat) : Cn p n (dv p x) := fun i _ => by
 have := Nat.mod_lt (x / p ^ i) hp; simp only [dv]; omega
theorem Jyy {x i : Nat} (hx : x < p ^ m) (hi : m <= i) : dv p x i = 0 := by
 rcases Nat.eq_zero_or_pos p with rfl | hp
 .simp only [dv]; cases m with
  | zero =>
   have : x = 0 := by simpa using hx
   subst this; simp
  | succ m => simp at hx
 .have : x / p ^ i = 0 := Nat.div_eq_of_lt (Nat.lt_of_lt_of_le hx (Nat.pow_le_pow_right hp hi)); simp [dv, this]
theorem Yu {x : Nat} (hx : x < p ^ m) : Sup m (dv p x) := fun i hi => Jyy hx hi
theorem Jcm (x i : Nat) : dv p x i % (p : Int) = dv p x i := by
 simp only [dv]; rw [<- Int.natCast_emod, Nat.mod_mod]
theorem Jca (hp : 0 < p) {x : Nat} (hx : x < p ^ m) : nm p m (dv p x) = x := by
 unfold nm; rw [Jf6 (v := dv p x) fun i _ => Jcm x i, Jw0 hp hx]; rfl
theorem Jyf {u v : Vec} (h : ∀ i, i < m -> u i % (p : Int) = v i % (p : Int)) : nm p m u = nm p m v := by
 unfold nm; rw [Jf6 h]
theorem Zz {u v : Vec} (h : vcg p u v) : nm p m u = nm p m v := Jyf fun i _ => h i
theorem Jmh (hp : 0 < p) {v : Vec} (hv : Sup m v) : vcg p (dv p (nm p m v)) v := fun i => by
 rcases Nat.lt_or_ge i m with h | h
 .rw [Jrq hp v h, Int.emod_emod]
 .rw [Jyy (Jb9 hp v) h, hv i h]
theorem nm_eq (hp : 0 < p) {x : Nat} {v : Vec} (hx : x < p ^ m) (h : ∀ i, i < m -> dv p x i = v i % (p : Int)) : nm p m v = x := by
 rw [<- Jca hp hx]; exact Jyf fun i hi => by rw [h i hi, Int.emod_emod]
end
def Qf (p m x y : Nat) : Nat := nm p m (Qa (dv p x) (dv p y))
def Q4 (p m x : Nat) : Nat := nm p m (vsm (-1) (dv p x))
def JD (p m : Nat) (c : Vec) (x y : Nat) : Nat := nm p m (YE m c (dv p x) (dv p y))
section
variable {p m : Nat} {c : Vec}
theorem Jrp (hp : 0 < p) (x y : Nat) : Qf p m x y < p ^ m := Jb9 hp _
theorem YI (hp : 0 < p) (x : Nat) : Q4 p m x < p ^ m := Jb9 hp _
theorem Jjw (hp : 0 < p) (x y : Nat) : JD p m c x y < p ^ m := Jb9 hp _
theorem Jj1 (hp : 0 < p) {x y : Nat} (hx : x < p ^ m) (hy : y < p ^ m) : vcg p (dv p (Qf p m x y)) (Qa (dv p x) (dv p y)) := Jmh hp ((Yu hx).add (Yu hy))
theorem Qbx (hp : 0 < p) {x : Nat} (hx : x < p ^ m) : vcg p (dv p (Q4 p m x)) (vsm (-1) (dv p x)) := Jmh hp (Yu hx).sm
theorem Jwx {a b : Vec} (ha : Sup m a) : Sup m (YE m c a b) := Sup.opr ha m
theorem Jdd (hp : 0 < p) {x y : Nat} (hx : x < p ^ m) : vcg p (dv p (JD p m c x y)) (YE m c (dv p x) (dv p y)) := Jmh hp (Jwx (Yu hx))
theorem Jti (x y : Nat) : Qf p m x y = Qf p m y x := by unfold Qf; rw [Jh5]
theorem Jok (hp : 0 < p) {x y z : Nat} (hx : x < p ^ m) (hy : y < p ^ m) (hz : z < p ^ m) : Qf p m (Qf p m x y) z = Qf p m x (Qf p m y z) := by
 show nm p m (Qa (dv p (Qf p m x y)) (dv p z)) = nm p m (Qa (dv p x) (dv p (Qf p m y z))); rw [Zz ((Jj1 hp hx hy).add (vcg.refl _)), Zz ((vcg.refl (p := p) (dv p x)).add (Jj1 hp hy hz)), ZY]
theorem Jg5 (p : Nat) : dv p 0 = vz := by funext i; simp [dv, vz]
theorem Jth (hp : 0 < p) {x : Nat} (hx : x < p ^ m) : Qf p m x 0 = x := by unfold Qf; rw [Jg5, Jcg, Jca hp hx]
theorem YU (hp : 0 < p) {x : Nat} (hx : x < p ^ m) : Qf p m x (Q4 p m x) = 0 := by
 show nm p m (Qa (dv p x) (dv p (Q4 p m x))) = 0; rw [Zz ((vcg.refl (p := p) (dv p x)).add (Qbx hp hx))]; have : Qa (dv p x) (vsm (-1) (dv p x)) = vz := by funext i; simp only [Qa, vsm, vz]; omega
 rw [this, <- Jg5 p, Jca hp (by exact Nat.pow_pos hp)]
theorem Jej {x y : Nat} (hx : x < p ^ m) (hy : y < p ^ m) : JD p m c x y = JD p m c y x := by
 unfold JD; rw [Jbh (Yu hx) (Yu hy)]
theorem Joi (hp : 0 < p) {x y z : Nat} (hx : x < p ^ m) (hy : y < p ^ m) (hz : z < p ^ m) : JD p m c (JD p m c x y) z = JD p m c x (JD p m c y z) := by
 show nm p m (YE m c (dv p (JD p m c x y)) (dv p z)) = nm p m (YE m c (dv p x) (dv p (JD p m c y z))); rw [Zz (vcg.mul (vcg.refl c) (Jdd hp hx) (vcg.refl _)), Zz (vcg.mul (vcg.refl c) (vcg.refl (dv p x)) (Jdd hp hy)), Jni (Yu hx) (Yu hy) (Yu hz)]
theorem Jj0 (hp : 2 <= p) : dv p 1 = e0 := by
 funext i; cases i with
 | zero => rw [Zp, Nat.mod_eq_of_lt (by omega)]; rfl
 | succ i =>
  have : (1 : Nat) / p ^ (i + 1) = 0 := Nat.div_eq_of_lt (Nat.one_lt_pow (by omega) (by omega)); simp [dv, this, e0]
theorem Jg2 (hp : 2 <= p) (hm : 0 < m) {x : Nat} (hx : x < p ^ m) : JD p m c x 1 = x := by
 unfold JD; rw [Jj0 hp, Jwy hm, Jca (by omega) hx]
theorem Jtf (hp : 0 < p) {x : Nat} (hx : x < p ^ m) : JD p m c x 0 = 0 := by
 rw [Jej hx (Nat.pow_pos hp)]; unfold JD; rw [Jg5]; have : YE m c vz (dv p x) = vz := opr_z ..; rw [this, <- Jg5 p, Jca hp (Nat.pow_pos hp)]
theorem Jyr (hp : 0 < p) {x y z : Nat} (hx : x < p ^ m) (hy : y < p ^ m) (hz : z < p ^ m) : JD p m c x (Qf p m y z) = Qf p m (JD p m c x y) (JD p m c x z) := by
 show nm p m (YE m c (dv p x) (dv p (Qf p m y z))) = nm p m (Qa (dv p (JD p m c x y)) (dv p (JD p m c x z))); rw [Zz (vcg.mul (vcg.refl c) (vcg.refl (dv p x)) (Jj1 hp hy hz)), Zz ((Jdd (c := c) hp hx).add (Jdd hp hx)), Jwz]
end
structure CR (q : Nat) (A M : Nat -> Nat -> Nat) : Prop where
  q2 : 2 <= q
  Al : ∀ x y, A x y < q
  Ml : ∀ x y, M x y < q
  Ac : ∀ x y, A x y = A y x
  Aa : ∀ {x y z}, x < q -> y < q -> z < q -> A (A x y) z = A x (A y z)
  Az : ∀ {x}, x < q -> A x 0 = x
  An : ∀ {x}, x < q -> ∃ y, y < q /\ A x y = 0
  Mc : ∀ {x y}, x < q -> y < q -> M x y = M y x
  Ma : ∀ {x y z}, x < q -> y < q -> z < q -> M (M x y) z = M x (M y z)
  M1 : ∀ {x}, x < q -> M x 1 = x
  M0 : ∀ {x}, x < q -> M x 0 = 0
  Md : ∀ {x y z}, x < q -> y < q -> z < q -> M x (A y z) = A (M x y) (M x z)
theorem Jqr {p m : Nat} (c : Vec) (hp : 2 <= p) (hm : 0 < m) : CR (p ^ m) (Qf p m) (JD p m c) where
 q2 := Nat.le_trans hp (by have := Nat.pow_le_pow_right (n := p) (by omega) hm; simpa using this)
 Al := Jrp (by omega)
 Ml := Jjw (by omega)
 Ac := Jti
 Aa := Jok (by omega)
 Az := Jth (by omega)
 An := fun {x} hx => ⟨Q4 p m x, YI (by omega) x, YU (by omega) hx⟩
 Mc := Jej
 Ma := Joi (by omega)
 M1 := Jg2 hp hm
 M0 := Jtf (by omega)
 Md := Jyr (by omega)
end Go.Proofs.YtngdhnijkgjhcaaGreat
namespace Go.Proofs.YtngdhnijkgjhcaaGreat
def pw (M : Nat -> Nat -> Nat) (g : Nat) : Nat -> Nat
  | 0 => 1
  | k + 1 => M (pw M g k) g
theorem php : ∀ (n : Nat) (f : Nat -> Nat), (∀ i, i < n + 1 -> f i < n) -> ∃ i j, i < j /\ j < n + 1 /\ f i = f j
 | 0, f, h => absurd (h 0 (by omega)) (by omega)
 | n + 1, f, h => by
  by_cases hc : ∃ i, i < n + 1 /\ f i = f (n + 1)
  .obtain ⟨i, hi, he⟩ := hc; exact ⟨i, n + 1, hi, by omega, he⟩
  .have hv := h (n + 1) (by omega); obtain ⟨i, j, hij, hj, he⟩ := php n (fun i => if f i = n then f (n + 1) else f i) (fun i hi => by
    have hne : f i ≠ f (n + 1) := fun e => hc ⟨i, hi, e⟩; have := h i (by omega); show (if f i = n then f (n + 1) else f i) < n; split
    .omega
    .omega)
   refine ⟨i, j, hij, by omega, ?_⟩; have hi1 : f i ≠ f (n + 1) := fun e => hc ⟨i, by omega, e⟩; have hj1 : f j ≠ f (n + 1) := fun e => hc ⟨j, by omega, e⟩; split at he <;> split at he <;> omega
theorem Jk2 {n : Nat} {f : Nat -> Nat} (hb : ∀ i, i < n -> f i < n) (hi : ∀ i j, i < j -> j < n -> f i ≠ f j) {y : Nat} (hy : y < n) : ∃ i, i < n /\ f i = y := by
 obtain ⟨i, j, hij, hj, he⟩ := php n (fun i => if i < n then f i else y) (fun i _ => by
  show (if i < n then f i else y) < n; split
  .rename_i h; exact hb i h
  .exact hy)
 rcases Nat.lt_or_ge j n with h | h
 .rw [if_pos h, if_pos (show i < n by omega)] at he; exact absurd he (hi i j hij h)
 .rw [if_neg (show ¬ j < n by omega), if_pos (show i < n by omega)] at he; exact ⟨i, by omega, he⟩
section
variable {q : Nat} {A M : Nat -> Nat -> Nat} (R : CR q A M)
include R
namespace CR
theorem one_lt : 1 < q := R.q2
theorem pos : 0 < q := by have := R.q2; omega
theorem I1 {x : Nat} (hx : x < q) : M 1 x = x := by rw [R.Mc R.one_lt hx, R.M1 hx]
theorem Z0 {x : Nat} (hx : x < q) : M 0 x = 0 := by rw [R.Mc R.pos hx, R.M0 hx]
theorem zA {x : Nat} (hx : x < q) : A 0 x = x := by rw [R.Ac, R.Az hx]
theorem pw_lt (g : Nat) : ∀ k, pw M g k < q
 | 0 => R.one_lt
 | k + 1 => R.Ml _ _
theorem pw_one {g : Nat} (hg : g < q) : pw M g 1 = g := R.I1 hg
theorem pw_add {g : Nat} (hg : g < q) (i : Nat) : ∀ j, pw M g (i + j) = M (pw M g i) (pw M g j)
 | 0 => (R.M1 (R.pw_lt g i)).symm
 | j + 1 => by
  show M (pw M g (i + j)) g = M (pw M g i) (M (pw M g j) g); rw [pw_add hg i j, R.Ma (R.pw_lt g i) (R.pw_lt g j) hg]
theorem pw_pw {g : Nat} (hg : g < q) (i : Nat) : ∀ j, pw M (pw M g i) j = pw M g (i * j)
 | 0 => rfl
 | j + 1 => by
  show M (pw M (pw M g i) j) (pw M g i) = _; rw [pw_pw hg i j, <- R.pw_add hg]; rfl
theorem one_pw : ∀ j, pw M 1 j = 1
 | 0 => rfl
 | j + 1 => by show M (pw M 1 j) 1 = 1; rw [one_pw j, R.M1 R.one_lt]
theorem zero_pw {n : Nat} (h : 0 < n) : pw M 0 n = 0 := by
 cases n with
 | zero => omega
 | succ n => exact R.M0 (R.pw_lt 0 n)
end CR
end
structure Gn (q : Nat) (M : Nat -> Nat -> Nat) (g : Nat) : Prop where
  lt : g < q
  one : pw M g (q - 1) = 1
  no : ∀ k, 0 < k -> k < q - 1 -> pw M g k ≠ 1
namespace Gn
variable {q g : Nat} {A M : Nat -> Nat -> Nat}
theorem per (G : Gn q M g) (R : CR q A M) (i k : Nat) : pw M g (i + (q - 1) * k) = pw M g i := by
 rw [R.pw_add G.lt, <- R.pw_pw G.lt, G.one, R.one_pw, R.M1 (R.pw_lt g i)]
theorem ne0 (G : Gn q M g) (R : CR q A M) (k : Nat) : pw M g k ≠ 0 := fun h => by
 have h1 := G.per R 0 (k + 1); have hq := R.q2; rw [Nat.zero_add] at h1; have : (q - 1) * (k + 1) = k + ((q - 1) * (k + 1) - k) := by
  have : k + 1 <= (q - 1) * (k + 1) := Nat.le_mul_of_pos_left _ (by omega); omega
 rw [this, R.pw_add G.lt, h, R.Z0 (R.pw_lt g _)] at h1; exact absurd h1 (by show ¬ (0 : Nat) = 1; omega)
theorem inj (G : Gn q M g) (R : CR q A M) {i j : Nat} (hij : i < j) (hj : j < q - 1) : pw M g i ≠ pw M g j := fun h => by
 have e1 : M (pw M g i) (pw M g (q - 1 - i)) = 1 := by rw [<- R.pw_add G.lt, show i + (q - 1 - i) = q - 1 by omega, G.one]
 have e2 : M (pw M g j) (pw M g (q - 1 - i)) = pw M g (j - i) := by
  rw [<- R.pw_add G.lt, show j + (q - 1 - i) = (j - i) + (q - 1) * 1 by omega, G.per R]
 rw [h] at e1; exact G.no (j - i) (by omega) (by omega) (e2.symm.trans e1)
theorem surj (G : Gn q M g) (R : CR q A M) {x : Nat} (h0 : 0 < x) (hx : x < q) : ∃ k, k < q - 1 /\ pw M g k = x := by
 obtain ⟨i, hi, he⟩ := Jk2 (n := q - 1) (f := fun k => pw M g k - 1) (fun i hi => by
  have := R.pw_lt g i; have := G.ne0 R i; show pw M g i - 1 < q - 1; omega) (fun i j hij hj he => by
  have h1 := G.ne0 R i; have h2 := G.ne0 R j; exact G.inj R hij hj (by omega)) (y := x - 1) (by omega)
 have := G.ne0 R i; exact ⟨i, hi, by omega⟩
open Classical in
noncomputable def lg (q : Nat) (M : Nat -> Nat -> Nat) (g x : Nat) : Nat := if h : ∃ k, k < q - 1 /\ pw M g k = x then Classical.choose h else 0
theorem xone (G : Gn q M g) (R : CR q A M) {x : Nat} (h0 : 0 < x) (hx : x < q) : pw M x (q - 1) = 1 := by
  obtain ⟨k, hk, rfl⟩ := G.surj R h0 hx
  rw [R.pw_pw G.lt, Nat.mul_comm, <- R.pw_pw G.lt, G.one, R.one_pw]
end Gn
end Go.Proofs.YtngdhnijkgjhcaaGreat
namespace Go.Proofs.YtngdhnijkgjhcaaGreat
structure IsLf (n d : Nat) : Prop where
  two : 2 <= d
  dvd : n % d = 0
  min : ∀ e, 2 <= e -> n % e = 0 -> d <= e
def Jy1 : Nat -> Nat -> Nat
  | _, 0 => 1
  | 0, _ + 1 => 0
  | n + 1, k + 1 => Jy1 n k + Jy1 n (k + 1)
section
variable {q : Nat} {A M : Nat -> Nat -> Nat} (R : CR q A M)
include R
namespace CR
theorem Aac {a b c : Nat} (ha : a < q) (hb : b < q) (hc : c < q) : A (A a b) c = A (A a c) b := by
 rw [R.Aa ha hb hc, R.Ac b c, <- R.Aa ha hc hb]
theorem A4 {a b c d : Nat} (ha : a < q) (hb : b < q) (hc : c < q) (hd : d < q) : A (A a b) (A c d) = A (A a c) (A b d) := by
 rw [<- R.Aa (R.Al a b) hc hd, R.Aac ha hb hc, R.Aa (R.Al a c) hb hd]
end CR
end
end Go.Proofs.YtngdhnijkgjhcaaGreat
namespace Go.Proofs.YtngdhnijkgjhcaaGreat
def hz (m : Nat) (c b y : Vec) (n : Nat) : Nat -> Vec
  | 0 => vz
  | k + 1 => Qa (tX m c (hz m c b y n k)) (vsm (b (n - 1 - k)) y)
theorem Jyn {m : Nat} {c b y : Vec} {n : Nat} : ∀ {k : Nat}, k <= n -> Qa (tXn m c (n - k) (hz m c b y n k)) (opr m c b (n - k) y) = opr m c b n y
 | 0, _ => by simp only [hz, Nat.sub_zero]; rw [Jk0, z_vadd]
 | k + 1, h => by
  have ih := Jyn (m := m) (c := c) (b := b) (y := y) (n := n) (k := k) (by omega); obtain ⟨r, hr⟩ : ∃ r, n - k = r + 1 := ⟨n - k - 1, by omega⟩
  rw [show n - (k + 1) = r by omega]; rw [hr] at ih; rw [<- ih]; show Qa (tXn m c r (Qa (tX m c (hz m c b y n k)) (vsm (b (n - 1 - k)) y))) (opr m c b r y) = Qa (tX m c (tXn m c r (hz m c b y n k))) (Qa (opr m c b r y) (vsm (b r) (tXn m c r y))); rw [Jc1, Jd4, Jxd, show n - 1 - k = r by omega, ZY, Jh5 (vsm _ _)]
theorem hz_all (m : Nat) (c b y : Vec) (n : Nat) : hz m c b y n n = opr m c b n y := by
 have := Jyn (m := m) (c := c) (b := b) (y := y) (n := n) (k := n) (Nat.le_refl n); rw [Nat.sub_self] at this; rw [<- this]; exact (Jcg _).symm
def dgl (p : Nat) : Nat -> Nat -> List Nat
  | 0, _ => []
  | n + 1, x => (x % p) :: dgl p n (x / p)
theorem Yg (p : Nat) : ∀ n x, (dgl p n x).length = n
 | 0, _ => rfl
 | n + 1, x => by simp [dgl, Yg p n]
theorem Jeo (p : Nat) : ∀ n x i, i < n -> (((dgl p n x).getD i 0 : Nat) : Int) = dv p x i
 | 0, _, i, h => by omega
 | n + 1, x, 0, _ => by rw [Zp]; rfl
 | n + 1, x, i + 1, h => by
  show (((dgl p n (x / p)).getD i 0 : Nat) : Int) = _; rw [Jeo p n (x / p) i (by omega), Jak]
@[reducible] noncomputable def hd0 (l : List Nat) : Nat := List.rec (motive := fun _ => Nat) 0 (fun x _ _ => x) l
@[reducible] noncomputable def tl0 (l : List Nat) : List Nat := List.rec (motive := fun _ => List Nat) [] (fun _ l _ => l) l
noncomputable def go (p a top : Nat) (cs : List Nat) : Nat -> List Nat -> List Nat -> List Nat :=
  List.rec (motive := fun _ => Nat -> List Nat -> List Nat -> List Nat) (fun _ _ _ => [])
    (fun c _ ih prev us ys => ((prev + (p - c) * top + a * hd0 ys) % p) :: ih (hd0 us) (tl0 us) (tl0 ys)) cs
noncomputable def tp (l : List Nat) : Nat -> Nat := List.rec (motive := fun _ => Nat -> Nat) (fun d => d) (fun x _ ih _ => ih x) l
noncomputable def Jn7 (p : Nat) (cs ys gs : List Nat) : List Nat -> List Nat :=
  List.rec (motive := fun _ => List Nat -> List Nat) (fun acc => acc) (fun g _ ih acc => ih (go p g (tp acc 0) cs 0 acc ys)) gs
noncomputable def az (l : List Nat) : Bool := List.rec (motive := fun _ => Bool) true (fun x _ ih => bif Nat.beq x 0 then ih else false) l
noncomputable def is1 (l : List Nat) : Bool := List.rec (motive := fun _ => Bool) false (fun x t _ => bif Nat.beq x 1 then az t else false) l
noncomputable def run (p : Nat) (cs gs : List Nat) (n : Nat) : List Nat -> Bool :=
  Nat.rec (motive := fun _ => List Nat -> Bool) (fun y => is1 y) (fun _ ih y => bif is1 y then false else ih (Jn7 p cs y gs y)) n
noncomputable def Jk4 (p c : Nat) (al : List Nat) : List Nat -> List Nat :=
  List.rec (motive := fun _ => List Nat -> List Nat) (fun bs => bs) (fun a _ ih bs => ((hd0 bs + (p - a) * c) % p) :: ih (tl0 bs)) al
noncomputable def dvg (p : Nat) (low : List Nat) (k : Nat) : List Nat -> Bool :=
  Nat.rec (motive := fun _ => List Nat -> Bool) (fun r => az r) (fun _ ih r => ih (Jk4 p (hd0 r) low (tl0 r))) k
noncomputable def nob (f : Nat -> Bool) (n : Nat) : Bool := Nat.rec (motive := fun _ => Bool) true (fun i ih => bif f i then false else ih) n
noncomputable def irrB (p m : Nat) (ml : List Nat) : Bool :=
  nob (fun d => !nob (fun w => dvg p (dgl p (d + 1) w).reverse (m - d) (1 :: ml.reverse)) (p ^ (d + 1))) (m / 2)
noncomputable def cand (p c : Nat) : List Nat := bif Nat.blt c p then [c] else bif Nat.blt c (p + p * p) then [(c - p) / p, (c - p) % p] else [(c - p - p * p) / (p * p), (c - p - p * p) / p % p, (c - p - p * p) % p]
noncomputable def gen1 (p m : Nat) (cs gs : List Nat) : Bool := run p cs gs (p ^ m - 2) (Jn7 p cs (dgl p m 1) gs (dgl p m 1))
noncomputable def Joe (p m : Nat) (cs : List Nat) : Bool := !nob (fun c => gen1 p m cs (cand p (p + p * p + p * p * p - 1 - c))) (p + p * p + p * p * p)
noncomputable def chk (p m lo n : Nat) : Bool := nob (fun v => bif irrB p m (dgl p m (lo + v)) then !Joe p m (dgl p m (lo + v)) else false) n

theorem Jju (l : List Nat) : hd0 l = l.getD 0 0 := by cases l <;> rfl
theorem Jgb (l : List Nat) (i : Nat) : (tl0 l).getD i 0 = l.getD (i + 1) 0 := by cases l <;> rfl
theorem Qau (l : List Nat) : (tl0 l).length = l.length - 1 := by cases l <;> simp [tl0]
theorem Jjv (p a top c : Nat) (cs : List Nat) (prev : Nat) (us ys : List Nat) : go p a top (c :: cs) prev us ys = ((prev + (p - c) * top + a * hd0 ys) % p) :: go p a top cs (hd0 us) (tl0 us) (tl0 ys) := rfl
theorem Jyp (p a top : Nat) : ∀ (cs : List Nat) (prev : Nat) (us ys : List Nat), (go p a top cs prev us ys).length = cs.length
 | [], _, _, _ => rfl
 | c :: cs, prev, us, ys => by rw [Jjv, List.length_cons, Jyp p a top cs, List.length_cons]
theorem go_at (p a top : Nat) : ∀ (cs : List Nat) (prev : Nat) (us ys : List Nat) (i : Nat), i < cs.length -> (go p a top cs prev us ys).getD i 0 = ((if i = 0 then prev else us.getD (i - 1) 0) + (p - cs.getD i 0) * top + a * ys.getD i 0) % p
 | [], _, _, _, i, h => by simp at h
 | c :: cs, prev, us, ys, 0, _ => by rw [Jjv, Jju]; rfl
 | c :: cs, prev, us, ys, i + 1, h => by
  rw [Jjv]; show (go p a top cs (hd0 us) (tl0 us) (tl0 ys)).getD i 0 = _; rw [go_at p a top cs _ _ _ i (by simpa using h)]; cases i with
  | zero => rw [if_pos rfl, if_neg (by omega), Jju, Jgb]; rfl
  | succ i => rw [if_neg (by omega), if_neg (by omega), Jgb, Jgb]; rfl
theorem tp_eq : ∀ (l : List Nat) (d : Nat), 0 < l.length -> tp l d = l.getD (l.length - 1) 0
 | [], _, h => by simp at h
 | [x], d, _ => rfl
 | x :: y :: l, d, _ => by
  show tp (y :: l) x = _; rw [tp_eq (y :: l) x (by simp)]; simp
def Rep (p m : Nat) (L : List Nat) (v : Vec) : Prop := L.length = m /\ ∀ i, i < m -> ((L.getD i 0 : Nat) : Int) = v i % (p : Int)
def hl (m : Nat) (c y : Vec) : List Nat -> Vec -> Vec
  | [], u => u
  | g :: gs, u => hl m c y gs (Qa (tX m c u) (vsm g y))
theorem Rep.step {p m : Nat} {cs us ys : List Nat} {c u y : Vec} (hp : 0 < p) (hm : 0 < m) (hc : Rep p m cs c) (hu : Rep p m us u) (hy : Rep p m ys y) (g : Nat) :
  Rep p m (go p g (tp us 0) cs 0 us ys) (Qa (tX m c u) (vsm g y)) := by
 refine ⟨by rw [Jyp, hc.1], fun i hi => ?_⟩; rw [go_at _ _ _ _ _ _ _ _ (by rw [hc.1]; exact hi), tp_eq _ _ (by rw [hu.1]; exact hm), hu.1]; have h1 := hu.2 (m - 1) (by omega); have h2 := hc.2 i hi; have h3 := hy.2 i hi; have hlt : cs.getD i 0 <= p := by
  have := Int.emod_lt_of_pos (c i) (show (0 : Int) < p by omega); omega
 have e : (((if i = 0 then 0 else us.getD (i - 1) 0) : Nat) : Int) % p = (if i = 0 then (0 : Int) else u (i - 1)) % p := by
  split
  .rfl
  .rw [hu.2 (i - 1) (by omega), Int.emod_emod]
 simp only [Qa, vsm, tX, if_pos hi]; generalize (if i = 0 then 0 else us.getD (i - 1) 0 : Nat) = A at *
 generalize (if i = 0 then (0 : Int) else u (i - 1)) = B at *
 generalize us.getD (m - 1) 0 = T at *
 generalize cs.getD i 0 = C at *
 generalize ys.getD i 0 = Y at *
 have hT : ((T : Nat) : Int) % p = u (m - 1) % p := by rw [h1, Int.emod_emod]
 have hC : ((C : Nat) : Int) % p = c i % p := by rw [h2, Int.emod_emod]
 have hY : ((Y : Nat) : Int) % p = y i % p := by rw [h3, Int.emod_emod]
 obtain ⟨D, hD⟩ : ∃ D, p = C + D := ⟨p - C, by omega⟩
 have hsub : p - C = D := by omega
 rw [hsub]; have hcast : ((A + D * T + g * Y : Nat) : Int) = ((A : Int) - C * T + g * Y) + p * T := by
  have : (p : Int) = C + D := by omega
  rw [this]; push_cast; rw [Int.add_mul]; omega
 rw [Int.natCast_emod, hcast, Int.add_mul_emod_self_left]; exact Jer (Jno e (Jei hC hT)) (Jei rfl hY)
theorem Jtd (p : Nat) (cs ys : List Nat) (g : Nat) (gs acc : List Nat) : Jn7 p cs ys (g :: gs) acc = Jn7 p cs ys gs (go p g (tp acc 0) cs 0 acc ys) := rfl
theorem Rep.mul {p m : Nat} {cs ys : List Nat} {c y : Vec} (hp : 0 < p) (hm : 0 < m) (hc : Rep p m cs c) (hy : Rep p m ys y) : ∀ {gs us : List Nat} {u : Vec}, Rep p m us u -> Rep p m (Jn7 p cs ys gs us) (hl m c y gs u)
 | [], _, _, h => h
 | g :: gs, us, u, h => by rw [Jtd]; exact Rep.mul hp hm hc hy (Rep.step hp hm hc h hy g)
theorem Job {m : Nat} {c y : Vec} (hy : Sup m y) : ∀ {gs : List Nat} {u : Vec}, Sup m u -> Sup m (hl m c y gs u)
 | [], _, h => h
 | g :: gs, u, h => Job (gs := gs) (u := Qa (tX m c u) (vsm g y)) hy (Sup.add Sup.tX hy.sm)
theorem Jyo {m : Nat} {c y : Vec} (hy : Sup m y) : ∀ {gs : List Nat} {U : Vec}, hl m c y gs (opr m c y m U) = opr m c y m (hl m c e0 gs U)
  | [], _ => rfl
  | g :: gs, U => by
    show hl m c y gs (Qa (tX m c (opr m c y m U)) (vsm g y)) = opr m c y m (hl m c e0 gs (Qa (tX m c U) (vsm g e0)))
    rw [<- Jyo hy, Jq8, Jnx, ZG hy]
    have := Jq7 m c y m 1 U
    rw [show tXn m c 1 U = tX m c U from rfl, show tXn m c 1 (opr m c y m U) = tX m c (opr m c y m U) from rfl] at this
    rw [this]
theorem Jjz {m : Nat} (hm : 0 < m) : Sup m e0 := fun i hi => by simp [e0, show i ≠ 0 by omega]
theorem hl_mul {m : Nat} {c y : Vec} (hm : 0 < m) (hy : Sup m y) (gs : List Nat) : hl m c y gs y = YE m c y (hl m c e0 gs e0) := by
 rw [Jbh hy (Job (Jjz hm) (Jjz hm))]; show _ = opr m c y m (hl m c e0 gs e0); rw [<- Jyo hy, ZG hy]
theorem Qaf {p m x : Nat} : Rep p m (dgl p m x) (dv p x) := ⟨Yg p m x, fun i hi => by rw [Jeo p m x i hi, Jcm]⟩
theorem Rep.cg {p m : Nat} {L : List Nat} {u v : Vec} (h : Rep p m L u) (hv : ∀ i, i < m -> u i % (p : Int) = v i % (p : Int)) : Rep p m L v := ⟨h.1, fun i hi => by rw [h.2 i hi, hv i hi]⟩
theorem Qb2 (x : Nat) (l : List Nat) : az (x :: l) = bif Nat.beq x 0 then az l else false := rfl
theorem Jj5 : ∀ l : List Nat, az l = true ↔ ∀ i, i < l.length -> l.getD i 0 = 0
 | [] => ⟨fun _ i h => by simp at h, fun _ => rfl⟩
 | x :: l => by
  rw [Qb2]; cases hx : Nat.beq x 0 with
  | true =>
   have := Nat.eq_of_beq_eq_true hx; subst this; rw [show (bif true then az l else false) = az l from rfl, Jj5 l]; constructor
   .intro h i hi; cases i with
    | zero => rfl
    | succ i => exact h i (by simpa using hi)
   .intro h i hi; exact h (i + 1) (by simpa using hi)
  | false =>
   rw [show (bif false then az l else false) = false from rfl]; constructor
   .intro h; cases h
   .intro h; have := h 0 (by simp); simp only [List.getD_cons_zero] at this; subst this; cases hx
theorem Jrn {p m x : Nat} {L : List Nat} (hp : 2 <= p) (hm : 0 < m) (hx : x < p ^ m) (h : Rep p m L (Go.Proofs.YtngdhnijkgjhcaaGreat.dv p x)) : is1 L = true ↔ x = 1 := by
 obtain ⟨a, l, rfl⟩ : ∃ a l, L = a :: l := by
  cases L with
  | nil => have := h.1; simp at this; omega
  | cons a l => exact ⟨a, l, rfl⟩
 have hlen : l.length + 1 = m := h.1; have h0 := h.2 0 hm; have e : is1 (a :: l) = bif Nat.beq a 1 then az l else false := rfl; rw [e]; constructor
 .intro hb; cases ha : Nat.beq a 1 with
  | false => rw [ha] at hb; cases hb
  | true =>
   rw [ha] at hb; have hz := (Jj5 l).1 hb; have ha1 := Nat.eq_of_beq_eq_true ha; subst ha1; rw [<- Jca (p := p) (m := m) (by omega) hx, <- Jca (p := p) (m := m) (x := 1) (by omega) (Nat.one_lt_pow (by omega) (by omega))]; refine Jyf fun i hi => ?_; rw [Jj0 hp, Jcm, <- Jcm, <- h.2 i hi]; cases i with
   | zero =>
    show (1 : Int) = e0 0 % p; simp only [e0, if_pos]; exact (Int.emod_eq_of_lt (by omega) (by omega)).symm
   | succ i =>
    show ((l.getD i 0 : Nat) : Int) = e0 (i + 1) % p; rw [hz i (by omega)]; simp [e0]
 .intro hx1; subst hx1; have ha : a = 1 := by
   have : ((a : Nat) : Int) = Go.Proofs.YtngdhnijkgjhcaaGreat.dv p 1 0 % p := h0; rw [Jcm, Jj0 hp] at this; simp [e0] at this; omega
  subst ha; show az l = true; refine (Jj5 l).2 fun i hi => ?_; have : ((l.getD i 0 : Nat) : Int) = Go.Proofs.YtngdhnijkgjhcaaGreat.dv p 1 (i + 1) % p := h.2 (i + 1) (by omega); rw [Jcm, Jj0 hp] at this; simp only [e0] at this; rw [if_neg (by omega)] at this; exact Int.ofNat_eq_zero.1 this
def gel (p m : Nat) (c : Vec) (gs : List Nat) : Nat := nm p m (hl m c e0 gs e0)
theorem Jm4 {p m x : Nat} {cs L gs : List Nat} {c : Vec} (hp : 2 <= p) (hm : 0 < m) (hx : x < p ^ m) (hc : Rep p m cs c) (h : Rep p m L (Go.Proofs.YtngdhnijkgjhcaaGreat.dv p x)) : Rep p m (Jn7 p cs L gs L) (Go.Proofs.YtngdhnijkgjhcaaGreat.dv p (JD p m c x (gel p m c gs))) := by
 have h1 := Rep.mul (gs := gs) (by omega) hm hc h h; rw [hl_mul hm (Yu hx)] at h1; refine h1.cg fun i hi => ?_; have hs := Job (c := c) (gs := gs) (Jjz hm) (Jjz hm); have e1 := Jdd (p := p) (m := m) (c := c) (by omega) hx (y := gel p m c gs); have e2 := vcg.mul (m := m) (vcg.refl (p := p) c) (vcg.refl (Go.Proofs.YtngdhnijkgjhcaaGreat.dv p x)) (Jmh (p := p) (m := m) (by omega) hs); exact ((e1.trans e2) i).symm
theorem Jxn (p : Nat) (cs gs : List Nat) (n : Nat) (y : List Nat) : run p cs gs (n + 1) y = bif is1 y then false else run p cs gs n (Jn7 p cs y gs y) := rfl
theorem Jxo {p m : Nat} {cs gs : List Nat} {c : Vec} (hp : 2 <= p) (hm : 0 < m) (hc : Rep p m cs c) : ∀ {n : Nat} {L : List Nat} {x : Nat}, x < p ^ m -> Rep p m L (Go.Proofs.YtngdhnijkgjhcaaGreat.dv p x) -> run p cs gs n L = true ->
  (∀ k, k < n -> JD p m c x (pw (JD p m c) (gel p m c gs) k) ≠ 1) /\ JD p m c x (pw (JD p m c) (gel p m c gs) n) = 1
 | 0, L, x, hx, h, hr => by
  refine ⟨fun k hk => by omega, ?_⟩; show JD p m c x 1 = 1; rw [Jg2 hp hm hx]; exact (Jrn hp hm hx h).1 hr
 | n + 1, L, x, hx, h, hr => by
  rw [Jxn] at hr; cases h1 : is1 L with
  | true => rw [h1] at hr; cases hr
  | false =>
   rw [h1] at hr; have R := Jqr (p := p) (m := m) c hp hm; have hg : gel p m c gs < p ^ m := Jb9 (by omega) _; have ih := Jxo hp hm hc (Jjw (by omega) x _) (Jm4 (gs := gs) hp hm hx hc h) hr; have e : ∀ k, JD p m c (JD p m c x (gel p m c gs)) (pw (JD p m c) (gel p m c gs) k) = JD p m c x (pw (JD p m c) (gel p m c gs) (k + 1)) := fun k => by
    rw [R.Ma hx hg (R.pw_lt _ k), R.Mc hg (R.pw_lt _ k)]; rfl
   refine ⟨fun k hk => ?_, by rw [<- e]; exact ih.2⟩; cases k with
   | zero =>
    show JD p m c x 1 ≠ 1; rw [Jg2 hp hm hx]; intro hx1; rw [(Jrn hp hm hx h).2 hx1] at h1; cases h1
   | succ k => rw [<- e]; exact ih.1 k (by omega)
theorem Qbs {p m : Nat} {cs gs : List Nat} {c : Vec} (hp : 2 <= p) (hm : 0 < m) (hc : Rep p m cs c) (h : gen1 p m cs gs = true) : Gn (p ^ m) (JD p m c) (gel p m c gs) := by
 have R := Jqr (p := p) (m := m) c hp hm; have hg : gel p m c gs < p ^ m := Jb9 (by omega) _; have h1 := Jm4 (gs := gs) hp hm R.one_lt hc Qaf; rw [R.I1 hg] at h1; obtain ⟨h2, h3⟩ := Jxo hp hm hc hg h1 h; have hq := R.q2; have e : ∀ k, JD p m c (gel p m c gs) (pw (JD p m c) (gel p m c gs) k) = pw (JD p m c) (gel p m c gs) (k + 1) := fun k => R.Mc hg (R.pw_lt _ k); refine ⟨hg, ?_, fun k h0 hk => ?_⟩
 .rw [show p ^ m - 1 = (p ^ m - 2) + 1 by omega, <- e]; exact h3
 .rw [show k = (k - 1) + 1 by omega, <- e]; exact h2 (k - 1) (by omega)
theorem Jye (f : Nat -> Bool) (n : Nat) : nob f (n + 1) = bif f n then false else nob f n := rfl
theorem Jbn (f : Nat -> Bool) : ∀ n, nob f n = true ↔ ∀ i, i < n -> f i = false
 | 0 => ⟨fun _ i h => by omega, fun _ => rfl⟩
 | n + 1 => by
  rw [Jye]; cases h : f n with
  | true =>
   refine ⟨fun h' => ?_, fun h' => ?_⟩
   .cases h'
   .rw [h' n (by omega)] at h; cases h
  | false =>
   show nob f n = true ↔ _; rw [Jbn f n]; refine ⟨fun h' i hi => ?_, fun h' i hi => h' i (by omega)⟩; rcases Nat.lt_or_ge i n with h1 | h1
   .exact h' i h1
   .rw [show i = n by omega]; exact h
theorem Jtb (f : Nat -> Bool) (n : Nat) (h : nob f n = false) : ∃ i, i < n /\ f i = true := by
 have hn : ¬ ∀ i, i < n -> f i = false := fun h' => by rw [(Jbn f n).2 h'] at h; cases h
 have := Classical.not_forall.1 hn; obtain ⟨i, hi⟩ := this; have h2 := Classical.not_imp.1 hi; exact ⟨i, h2.1, by cases hf : f i with | true => rfl | false => exact absurd hf h2.2⟩
theorem Jro {p m : Nat} {cs : List Nat} {c : Vec} (hp : 2 <= p) (hm : 0 < m) (hc : Rep p m cs c) (h : Joe p m cs = true) : ∃ g, Gn (p ^ m) (JD p m c) g := by
 unfold Joe at h; obtain ⟨i, _, hi⟩ := Jtb _ _ (by simpa using h); exact ⟨_, Qbs hp hm hc hi⟩
def rst (p d i : Nat) (l R : Vec) : Vec := fun j => if i <= j + d /\ j < i then (R j - l (j + d - i) * R i) % (p : Int) else R j
def rem (p d : Nat) (l R : Vec) (n : Nat) : Nat -> Vec
  | 0 => R
  | k + 1 => rst p d (n - 1 - k) l (rem p d l R n k)
def Dvd (p d : Nat) (l R : Vec) (n : Nat) : Prop := ∀ j, j < d -> rem p d l R n (n - d) j = 0
def Irr (p m : Nat) (c : Vec) : Prop := ∀ d, 0 < d -> 2 * d <= m -> ∀ w, w < p ^ d -> ¬ Dvd p d (dv p w) (fun i => if i = m then 1 else c i) (m + 1)
theorem Jd5 (p c a : Nat) (al bs : List Nat) : Jk4 p c (a :: al) bs = ((hd0 bs + (p - a) * c) % p) :: Jk4 p c al (tl0 bs) := rfl
theorem Jk3 (p c : Nat) : ∀ al bs : List Nat, al.length <= bs.length -> (Jk4 p c al bs).length = bs.length
 | [], _, _ => rfl
 | a :: al, [], h => by simp at h
 | a :: al, b :: bs, h => by
  rw [Jd5, List.length_cons]; show (Jk4 p c al bs).length + 1 = _; rw [Jk3 p c al bs (by simpa using h)]; rfl
theorem Jq2 (p c : Nat) : ∀ (al bs : List Nat) (t : Nat), (Jk4 p c al bs).getD t 0 = if t < al.length then (bs.getD t 0 + (p - al.getD t 0) * c) % p else bs.getD t 0
 | [], bs, t => by simp; rfl
 | a :: al, bs, 0 => by rw [Jd5, Jju]; simp
 | a :: al, bs, t + 1 => by
  rw [Jd5]; show (Jk4 p c al (tl0 bs)).getD t 0 = _; rw [Jq2 p c al (tl0 bs) t, Jgb]; simp
theorem Jyw (p : Nat) (low : List Nat) (k : Nat) (r : List Nat) : dvg p low (k + 1) r = dvg p low k (Jk4 p (hd0 r) low (tl0 r)) := rfl
theorem Jyx {p d n : Nat} {l R : Vec} {low : List Nat} (hp : 0 < p) (hl : low.length = d) (hlow : ∀ t, t < d -> ((low.getD t 0 : Nat) : Int) = l (d - 1 - t)) (hlp : ∀ t, t < d -> low.getD t 0 <= p) : ∀ (s k : Nat) (r : List Nat), s + k + d = n -> r.length = n - k ->
  (∀ t, t < n - k -> ((r.getD t 0 : Nat) : Int) = rem p d l R n k (n - 1 - k - t)) -> (dvg p low s r = true ↔ Dvd p d l R n)
 | 0, k, r, hs, hr, hv => by
  have : n - k = d := by omega
  rw [this] at hr hv; show az r = true ↔ _; rw [Jj5, hr]; have hk : n - d = k := by omega
  unfold Dvd; rw [hk]; constructor
  .intro h j hj; have := hv (d - 1 - j) (by omega); rw [h (d - 1 - j) (by omega), show n - 1 - k - (d - 1 - j) = j by omega] at this; exact this.symm
  .intro h t ht; have := hv t ht; rw [h (n - 1 - k - t) (by omega)] at this; exact Int.ofNat_eq_zero.1 this
 | s + 1, k, r, hs, hr, hv => by
  rw [Jyw]; have htl : (tl0 r).length = n - (k + 1) := by rw [Qau, hr]; omega
  refine Jyx hp hl hlow hlp s (k + 1) _ (by omega) (by rw [Jk3 _ _ _ _ (by rw [htl, hl]; omega), htl]) fun t ht => ?_; rw [Jq2, hl, Jgb, Jju]; have h0 := hv 0 (by omega); rw [Nat.sub_zero] at h0; have h1 := hv (t + 1) (by omega); rw [show n - 1 - k - (t + 1) = n - 1 - (k + 1) - t by omega] at h1; show _ = rst p d (n - 1 - k) l (rem p d l R n k) (n - 1 - (k + 1) - t); unfold rst; by_cases htd : t < d
  .rw [if_pos htd, if_pos (by omega)]; have h2 := hlow t htd; have h3 := hlp t htd; rw [show n - 1 - (k + 1) - t + d - (n - 1 - k) = d - 1 - t by omega, <- h0, <- h1, <- h2]; generalize r.getD (t + 1) 0 = X at *
   generalize low.getD t 0 = Y at *
   generalize r.getD 0 0 = Z at *
   obtain ⟨D, hD⟩ : ∃ D, p = Y + D := ⟨p - Y, by omega⟩
   rw [show p - Y = D by omega, Int.natCast_emod]; have hcast : ((X + D * Z : Nat) : Int) = ((X : Int) - Y * Z) + p * Z := by
    have : (p : Int) = Y + D := by omega
    rw [this]; push_cast; rw [Int.add_mul]; omega
   rw [hcast, Int.add_mul_emod_self_left]
  .rw [if_neg htd, if_neg (by omega)]; exact h1
theorem Jg1 (l : List Nat) (t : Nat) (h : t < l.length) : l.reverse.getD t 0 = l.getD (l.length - 1 - t) 0 := by
 rw [List.getD_eq_getElem?_getD, List.getD_eq_getElem?_getD, List.getElem?_reverse h]
theorem Jg6 {p : Nat} (hp : 0 < p) (x i : Nat) : 0 <= dv p x i /\ dv p x i < p := Jik hp x (i + 1) i (by omega)
theorem Jyk {p m v : Nat} (hp : 0 < p) (hv : v < p ^ m) : irrB p m (dgl p m v) = true ↔ Irr p m (dv p v) := by
 have key : ∀ d w, 0 < d -> 2 * d <= m -> (dvg p (dgl p d w).reverse (m + 1 - d) (1 :: (dgl p m v).reverse) = true ↔ Dvd p d (dv p w) (fun i => if i = m then 1 else dv p v i) (m + 1)) := fun d w hd h2 => by
  refine Jyx hp (by rw [List.length_reverse, Yg]) (fun t ht => ?_) (fun t ht => ?_) (m + 1 - d) 0 _ (by omega) (by simp [Yg]) fun t ht => ?_
  .rw [Jg1 _ _ (by rw [Yg]; exact ht), Yg, Jeo _ _ _ _ (by omega)]
  .rw [Jg1 _ _ (by rw [Yg]; exact ht), Yg]; have := Jeo p d w (d - 1 - t) (by omega); have := Jg6 hp w (d - 1 - t); omega
  .show _ = if m + 1 - 1 - 0 - t = m then (1 : Int) else dv p v (m + 1 - 1 - 0 - t)
   cases t with
   | zero => rw [if_pos (by omega)]; rfl
   | succ t =>
    rw [if_neg (by omega)]; show (((dgl p m v).reverse.getD t 0 : Nat) : Int) = _; rw [Jg1 _ _ (by rw [Yg]; omega), Yg, Jeo _ _ _ _ (by omega), show m + 1 - 1 - 0 - (t + 1) = m - 1 - t by omega]
 unfold irrB; rw [Jbn]; constructor
 .intro h d hd h2 w hw hD; have h3 := h (d - 1) (by omega); have h4 := (Jbn _ _).1 (by simpa using h3) w (by rw [show d - 1 + 1 = d by omega]; exact hw); rw [show d - 1 + 1 = d by omega, show m - (d - 1) = m + 1 - d by omega, (key d w hd h2).2 hD] at h4; cases h4
 .intro h d hd; have : nob (fun w => dvg p (dgl p (d + 1) w).reverse (m - d) (1 :: (dgl p m v).reverse)) (p ^ (d + 1)) = true := (Jbn _ _).2 fun w hw => by
   cases hb : dvg p (dgl p (d + 1) w).reverse (m - d) (1 :: (dgl p m v).reverse) with
   | false => rfl
   | true =>
    rw [show m - d = m + 1 - (d + 1) by omega] at hb; exact absurd ((key (d + 1) w (by omega) (by omega)).1 hb) (h (d + 1) (by omega) (by omega) w hw)
  rw [this]; rfl
theorem J2 {p m lo n v : Nat} (hp : 2 <= p) (hm : 0 < m) (h : chk p m lo n = true) (h1 : lo <= v) (h2 : v < lo + n) (hv : v < p ^ m) (hi : Irr p m (dv p v)) : ∃ g, Gn (p ^ m) (JD p m (dv p v)) g := by
 have h3 := (Jbn _ _).1 h (v - lo) (by omega); simp only [show lo + (v - lo) = v by omega, (Jyk (by omega) hv).2 hi, cond_true] at h3; exact Jro hp hm Qaf (by simpa using h3)
end Go.Proofs.YtngdhnijkgjhcaaGreat
namespace Go.Proofs.YtngdhnijkgjhcaaGreat
theorem Jtz : chk 2 2 0 4 = true := by decide +kernel
theorem Jty : chk 2 3 0 8 = true := by decide +kernel
theorem Jtx : chk 2 4 0 16 = true := by decide +kernel
theorem Jtw : chk 2 5 0 32 = true := by decide +kernel
theorem Jtv : chk 2 6 0 64 = true := by decide +kernel
theorem Jtu : chk 2 7 0 64 = true := by decide +kernel
theorem Jow : chk 2 7 64 64 = true := by decide +kernel
theorem Jtt : chk 2 8 0 24 = true := by decide +kernel
theorem Jov : chk 2 8 24 24 = true := by decide +kernel
theorem Jou : chk 2 8 48 24 = true := by decide +kernel
theorem Jot : chk 2 8 72 24 = true := by decide +kernel
theorem Jos : chk 2 8 96 24 = true := by decide +kernel
theorem Jme : chk 2 8 120 24 = true := by decide +kernel
theorem Jmd : chk 2 8 144 24 = true := by decide +kernel
theorem Jmc : chk 2 8 168 24 = true := by decide +kernel
theorem Jmb : chk 2 8 192 24 = true := by decide +kernel
theorem Jma : chk 2 8 216 24 = true := by decide +kernel
theorem Jl9 : chk 2 8 240 16 = true := by decide +kernel
theorem Jts : chk 3 2 0 9 = true := by decide +kernel
theorem Jtr : chk 3 3 0 27 = true := by decide +kernel
theorem Jtq : chk 3 4 0 64 = true := by decide +kernel
theorem Jor : chk 3 4 64 17 = true := by decide +kernel
theorem Jtp : chk 3 5 0 24 = true := by decide +kernel
theorem Joq : chk 3 5 24 24 = true := by decide +kernel
theorem Jop : chk 3 5 48 24 = true := by decide +kernel
theorem Joo : chk 3 5 72 24 = true := by decide +kernel
theorem Jon : chk 3 5 96 24 = true := by decide +kernel
theorem Jl8 : chk 3 5 120 24 = true := by decide +kernel
theorem Jl7 : chk 3 5 144 24 = true := by decide +kernel
theorem Jl6 : chk 3 5 168 24 = true := by decide +kernel
theorem Jl5 : chk 3 5 192 24 = true := by decide +kernel
theorem Jl4 : chk 3 5 216 24 = true := by decide +kernel
theorem Jl3 : chk 3 5 240 3 = true := by decide +kernel
theorem Jto : chk 5 2 0 25 = true := by decide +kernel
theorem Jtn : chk 5 3 0 64 = true := by decide +kernel
theorem Jom : chk 5 3 64 61 = true := by decide +kernel
theorem Jtm : chk 7 2 0 49 = true := by decide +kernel
theorem Joy : chk 11 2 0 64 = true := by decide +kernel
theorem Jmg : chk 11 2 64 57 = true := by decide +kernel
theorem Jox : chk 13 2 0 64 = true := by decide +kernel
theorem Jmf : chk 13 2 64 64 = true := by decide +kernel
theorem Jj2 : chk 13 2 128 41 = true := by decide +kernel
theorem chk1_0 : ([2, 3, 5, 7, 11, 13, 17, 19, 23, 29, 31, 37, 41, 43, 47, 53, 59, 61] : List Nat).all (fun p => Joe p 1 [0]) = true := by decide +kernel
theorem chk1_1 : ([67, 71, 73, 79, 83, 89, 97, 101, 103, 107, 109, 113, 127, 131, 137, 139, 149, 151] : List Nat).all (fun p => Joe p 1 [0]) = true := by decide +kernel
theorem chk1_2 : ([157, 163, 167, 173, 179, 181, 191, 193, 197, 199, 211, 223, 227, 229, 233, 239, 241, 251] : List Nat).all (fun p => Joe p 1 [0]) = true := by decide +kernel
theorem gx_2_2 {v : Nat} (hv : v < 2 ^ 2) (hI : Irr 2 2 (dv 2 v)) : ∃ g, Gn (2 ^ 2) (JD 2 2 (dv 2 v)) g := by
 have hv2 : v < 4 := hv; exact J2 (by decide) (by decide) Jtz (by omega) (by omega) hv hI
theorem gx_2_3 {v : Nat} (hv : v < 2 ^ 3) (hI : Irr 2 3 (dv 2 v)) : ∃ g, Gn (2 ^ 3) (JD 2 3 (dv 2 v)) g := by
 have hv2 : v < 8 := hv; exact J2 (by decide) (by decide) Jty (by omega) (by omega) hv hI
theorem gx_2_4 {v : Nat} (hv : v < 2 ^ 4) (hI : Irr 2 4 (dv 2 v)) : ∃ g, Gn (2 ^ 4) (JD 2 4 (dv 2 v)) g := by
 have hv2 : v < 16 := hv; exact J2 (by decide) (by decide) Jtx (by omega) (by omega) hv hI
theorem gx_2_5 {v : Nat} (hv : v < 2 ^ 5) (hI : Irr 2 5 (dv 2 v)) : ∃ g, Gn (2 ^ 5) (JD 2 5 (dv 2 v)) g := by
 have hv2 : v < 32 := hv; exact J2 (by decide) (by decide) Jtw (by omega) (by omega) hv hI
theorem gx_2_6 {v : Nat} (hv : v < 2 ^ 6) (hI : Irr 2 6 (dv 2 v)) : ∃ g, Gn (2 ^ 6) (JD 2 6 (dv 2 v)) g := by
 have hv2 : v < 64 := hv; exact J2 (by decide) (by decide) Jtv (by omega) (by omega) hv hI
theorem gx_2_7 {v : Nat} (hv : v < 2 ^ 7) (hI : Irr 2 7 (dv 2 v)) : ∃ g, Gn (2 ^ 7) (JD 2 7 (dv 2 v)) g := by
 have hv2 : v < 128 := hv; rcases Nat.lt_or_ge v 64 with h | h
 .exact J2 (by decide) (by decide) Jtu (by omega) (by omega) hv hI
 exact J2 (by decide) (by decide) Jow (by omega) (by omega) hv hI
theorem gx_2_8 {v : Nat} (hv : v < 2 ^ 8) (hI : Irr 2 8 (dv 2 v)) : ∃ g, Gn (2 ^ 8) (JD 2 8 (dv 2 v)) g := by
 have hv2 : v < 256 := hv; rcases Nat.lt_or_ge v 24 with h | h
 .exact J2 (by decide) (by decide) Jtt (by omega) (by omega) hv hI
 rcases Nat.lt_or_ge v 48 with h | h
 .exact J2 (by decide) (by decide) Jov (by omega) (by omega) hv hI
 rcases Nat.lt_or_ge v 72 with h | h
 .exact J2 (by decide) (by decide) Jou (by omega) (by omega) hv hI
 rcases Nat.lt_or_ge v 96 with h | h
 .exact J2 (by decide) (by decide) Jot (by omega) (by omega) hv hI
 rcases Nat.lt_or_ge v 120 with h | h
 .exact J2 (by decide) (by decide) Jos (by omega) (by omega) hv hI
 rcases Nat.lt_or_ge v 144 with h | h
 .exact J2 (by decide) (by decide) Jme (by omega) (by omega) hv hI
 rcases Nat.lt_or_ge v 168 with h | h
 .exact J2 (by decide) (by decide) Jmd (by omega) (by omega) hv hI
 rcases Nat.lt_or_ge v 192 with h | h
 .exact J2 (by decide) (by decide) Jmc (by omega) (by omega) hv hI
 rcases Nat.lt_or_ge v 216 with h | h
 .exact J2 (by decide) (by decide) Jmb (by omega) (by omega) hv hI
 rcases Nat.lt_or_ge v 240 with h | h
 .exact J2 (by decide) (by decide) Jma (by omega) (by omega) hv hI
 exact J2 (by decide) (by decide) Jl9 (by omega) (by omega) hv hI
theorem gx_3_2 {v : Nat} (hv : v < 3 ^ 2) (hI : Irr 3 2 (dv 3 v)) : ∃ g, Gn (3 ^ 2) (JD 3 2 (dv 3 v)) g := by
 have hv2 : v < 9 := hv; exact J2 (by decide) (by decide) Jts (by omega) (by omega) hv hI
theorem gx_3_3 {v : Nat} (hv : v < 3 ^ 3) (hI : Irr 3 3 (dv 3 v)) : ∃ g, Gn (3 ^ 3) (JD 3 3 (dv 3 v)) g := by
 have hv2 : v < 27 := hv; exact J2 (by decide) (by decide) Jtr (by omega) (by omega) hv hI
theorem gx_3_4 {v : Nat} (hv : v < 3 ^ 4) (hI : Irr 3 4 (dv 3 v)) : ∃ g, Gn (3 ^ 4) (JD 3 4 (dv 3 v)) g := by
 have hv2 : v < 81 := hv; rcases Nat.lt_or_ge v 64 with h | h
 .exact J2 (by decide) (by decide) Jtq (by omega) (by omega) hv hI
 exact J2 (by decide) (by decide) Jor (by omega) (by omega) hv hI
theorem gx_3_5 {v : Nat} (hv : v < 3 ^ 5) (hI : Irr 3 5 (dv 3 v)) : ∃ g, Gn (3 ^ 5) (JD 3 5 (dv 3 v)) g := by
 have hv2 : v < 243 := hv; rcases Nat.lt_or_ge v 24 with h | h
 .exact J2 (by decide) (by decide) Jtp (by omega) (by omega) hv hI
 rcases Nat.lt_or_ge v 48 with h | h
 .exact J2 (by decide) (by decide) Joq (by omega) (by omega) hv hI
 rcases Nat.lt_or_ge v 72 with h | h
 .exact J2 (by decide) (by decide) Jop (by omega) (by omega) hv hI
 rcases Nat.lt_or_ge v 96 with h | h
 .exact J2 (by decide) (by decide) Joo (by omega) (by omega) hv hI
 rcases Nat.lt_or_ge v 120 with h | h
 .exact J2 (by decide) (by decide) Jon (by omega) (by omega) hv hI
 rcases Nat.lt_or_ge v 144 with h | h
 .exact J2 (by decide) (by decide) Jl8 (by omega) (by omega) hv hI
 rcases Nat.lt_or_ge v 168 with h | h
 .exact J2 (by decide) (by decide) Jl7 (by omega) (by omega) hv hI
 rcases Nat.lt_or_ge v 192 with h | h
 .exact J2 (by decide) (by decide) Jl6 (by omega) (by omega) hv hI
 rcases Nat.lt_or_ge v 216 with h | h
 .exact J2 (by decide) (by decide) Jl5 (by omega) (by omega) hv hI
 rcases Nat.lt_or_ge v 240 with h | h
 .exact J2 (by decide) (by decide) Jl4 (by omega) (by omega) hv hI
 exact J2 (by decide) (by decide) Jl3 (by omega) (by omega) hv hI
theorem gx_5_2 {v : Nat} (hv : v < 5 ^ 2) (hI : Irr 5 2 (dv 5 v)) : ∃ g, Gn (5 ^ 2) (JD 5 2 (dv 5 v)) g := by
 have hv2 : v < 25 := hv; exact J2 (by decide) (by decide) Jto (by omega) (by omega) hv hI
theorem gx_5_3 {v : Nat} (hv : v < 5 ^ 3) (hI : Irr 5 3 (dv 5 v)) : ∃ g, Gn (5 ^ 3) (JD 5 3 (dv 5 v)) g := by
 have hv2 : v < 125 := hv; rcases Nat.lt_or_ge v 64 with h | h
 .exact J2 (by decide) (by decide) Jtn (by omega) (by omega) hv hI
 exact J2 (by decide) (by decide) Jom (by omega) (by omega) hv hI
theorem gx_7_2 {v : Nat} (hv : v < 7 ^ 2) (hI : Irr 7 2 (dv 7 v)) : ∃ g, Gn (7 ^ 2) (JD 7 2 (dv 7 v)) g := by
 have hv2 : v < 49 := hv; exact J2 (by decide) (by decide) Jtm (by omega) (by omega) hv hI
theorem Qbr {v : Nat} (hv : v < 11 ^ 2) (hI : Irr 11 2 (dv 11 v)) : ∃ g, Gn (11 ^ 2) (JD 11 2 (dv 11 v)) g := by
 have hv2 : v < 121 := hv; rcases Nat.lt_or_ge v 64 with h | h
 .exact J2 (by decide) (by decide) Joy (by omega) (by omega) hv hI
 exact J2 (by decide) (by decide) Jmg (by omega) (by omega) hv hI
theorem Qbq {v : Nat} (hv : v < 13 ^ 2) (hI : Irr 13 2 (dv 13 v)) : ∃ g, Gn (13 ^ 2) (JD 13 2 (dv 13 v)) g := by
 have hv2 : v < 169 := hv; rcases Nat.lt_or_ge v 64 with h | h
 .exact J2 (by decide) (by decide) Jox (by omega) (by omega) hv hI
 rcases Nat.lt_or_ge v 128 with h | h
 .exact J2 (by decide) (by decide) Jmf (by omega) (by omega) hv hI
 exact J2 (by decide) (by decide) Jj2 (by omega) (by omega) hv hI
noncomputable def prL : List Nat := [2, 3, 5, 7, 11, 13, 17, 19, 23, 29, 31, 37, 41, 43, 47, 53, 59, 61, 67, 71, 73, 79, 83, 89, 97, 101, 103, 107, 109, 113, 127, 131, 137, 139, 149, 151, 157, 163, 167, 173, 179, 181, 191, 193, 197, 199, 211, 223, 227, 229, 233, 239, 241, 251]
theorem Qa4 : (List.range 257).all (fun p => prL.contains p || Nat.blt p 2 || (List.range p).any (fun e => Nat.ble 2 e && Nat.beq (p % e) 0)) = true := by decide +kernel
theorem Qa3 {p : Nat} (hp : IsLf p p) (h : p <= 256) : p ∈ prL := by
 have h1 := List.all_eq_true.1 Qa4 p (List.mem_range.2 (by omega)); simp only [Bool.or_eq_true, List.contains_iff_mem, List.any_eq_true, List.mem_range, Bool.and_eq_true] at h1; rcases h1 with (h1 | h1) | ⟨e, he, h2, h3⟩
 .exact h1
 .have := hp.two; have := Nat.le_of_ble_eq_true h1; omega
 .have := hp.min e (Nat.le_of_ble_eq_true h2) (Nat.eq_of_beq_eq_true h3); omega
theorem gx_1 {p : Nat} (hp : IsLf p p) (h : p <= 256) : ∃ g, Gn (p ^ 1) (JD p 1 (dv p 0)) g := by
 have hm := Qa3 hp h; have hg : Joe p 1 [0] = true := by
  unfold prL at hm; rw [show ([2, 3, 5, 7, 11, 13, 17, 19, 23, 29, 31, 37, 41, 43, 47, 53, 59, 61, 67, 71, 73, 79, 83, 89, 97, 101, 103, 107, 109, 113, 127, 131, 137, 139, 149, 151, 157, 163, 167, 173, 179, 181, 191, 193, 197, 199, 211, 223, 227, 229, 233, 239, 241, 251] : List Nat) = ([2, 3, 5, 7, 11, 13, 17, 19, 23, 29, 31, 37, 41, 43, 47, 53, 59, 61] : List Nat) ++ ([67, 71, 73, 79, 83, 89, 97, 101, 103, 107, 109, 113, 127, 131, 137, 139, 149, 151] : List Nat) ++ ([157, 163, 167, 173, 179, 181, 191, 193, 197, 199, 211, 223, 227, 229, 233, 239, 241, 251] : List Nat) from rfl] at hm; simp only [List.mem_append] at hm; rcases hm with (h | h) | h
  .exact List.all_eq_true.1 chk1_0 p h
  .exact List.all_eq_true.1 chk1_1 p h
  .exact List.all_eq_true.1 chk1_2 p h
 refine Jro hp.two (by decide) ⟨rfl, fun i hi => ?_⟩ hg; rw [show i = 0 by omega, Jg5]; simp [vz]
theorem Jxw {p m : Nat} (hp : IsLf p p) (hm : 2 <= m) (hq : p ^ m <= 256) : (p = 2 /\ m = 2) ∨ (p = 2 /\ m = 3) ∨ (p = 2 /\ m = 4) ∨ (p = 2 /\ m = 5) ∨ (p = 2 /\ m = 6) ∨ (p = 2 /\ m = 7) ∨ (p = 2 /\ m = 8) ∨ (p = 3 /\ m = 2) ∨ (p = 3 /\ m = 3) ∨ (p = 3 /\ m = 4) ∨ (p = 3 /\ m = 5) ∨ (p = 5 /\ m = 2) ∨ (p = 5 /\ m = 3) ∨ (p = 7 /\ m = 2) ∨ (p = 11 /\ m = 2) ∨ (p = 13 /\ m = 2) := by
  have h2 := hp.two
  have hpow : ∀ k, k <= m -> p ^ k <= 256 := fun k hk => Nat.le_trans (Nat.pow_le_pow_right (by omega) hk) hq
  have hp2 : p <= 16 := by
    rcases Nat.lt_or_ge 16 p with h | h
    . have h1 := hpow 2 hm
      have h3 : 17 ^ 2 <= p ^ 2 := Nat.pow_le_pow_left h 2
      omega
    . exact h
  have hnd : ∀ e, 2 <= e -> e < p -> p % e ≠ 0 := fun e he hlt h0 => by have := hp.min e he h0; omega
  have hc : p = 2 ∨ p = 3 ∨ p = 5 ∨ p = 7 ∨ p = 11 ∨ p = 13 := by
    have h3 := hnd 2 (by omega)
    have h4 := hnd 3 (by omega)
    omega
  rcases hc with rfl | rfl | rfl | rfl | rfl | rfl
  . have : m <= 8 := by
      rcases Nat.lt_or_ge 8 m with h | h
      . have := hpow 9 h; omega
      . exact h
    omega
  . have : m <= 5 := by
      rcases Nat.lt_or_ge 5 m with h | h
      . have := hpow 6 h; omega
      . exact h
    omega
  . have : m <= 3 := by
      rcases Nat.lt_or_ge 3 m with h | h
      . have := hpow 4 h; omega
      . exact h
    omega
  . have : m <= 2 := by
      rcases Nat.lt_or_ge 2 m with h | h
      . have := hpow 3 h; omega
      . exact h
    omega
  . have : m <= 2 := by
      rcases Nat.lt_or_ge 2 m with h | h
      . have := hpow 3 h; omega
      . exact h
    omega
  . have : m <= 2 := by
      rcases Nat.lt_or_ge 2 m with h | h
      . have := hpow 3 h; omega
      . exact h
    omega
theorem gen_ex {p m v : Nat} (hp : IsLf p p) (hm : 0 < m) (hq : p ^ m <= 256) (hv : v < p ^ m) (h1 : m = 1 -> v = 0) (hI : Irr p m (dv p v)) : ∃ g, Gn (p ^ m) (JD p m (dv p v)) g := by
  rcases Nat.lt_or_ge m 2 with h | h
  . have : m = 1 := by omega
    subst this
    rw [h1 rfl]
    exact gx_1 hp (by simpa using hq)
  . rcases Jxw hp h hq with ⟨rfl, rfl⟩ | ⟨rfl, rfl⟩ | ⟨rfl, rfl⟩ | ⟨rfl, rfl⟩ | ⟨rfl, rfl⟩ | ⟨rfl, rfl⟩ | ⟨rfl, rfl⟩ | ⟨rfl, rfl⟩ | ⟨rfl, rfl⟩ | ⟨rfl, rfl⟩ | ⟨rfl, rfl⟩ | ⟨rfl, rfl⟩ | ⟨rfl, rfl⟩ | ⟨rfl, rfl⟩ | ⟨rfl, rfl⟩ | ⟨rfl, rfl⟩
    . exact gx_2_2 hv hI
    . exact gx_2_3 hv hI
    . exact gx_2_4 hv hI
    . exact gx_2_5 hv hI
    . exact gx_2_6 hv hI
    . exact gx_2_7 hv hI
    . exact gx_2_8 hv hI
    . exact gx_3_2 hv hI
    . exact gx_3_3 hv hI
    . exact gx_3_4 hv hI
    . exact gx_3_5 hv hI
    . exact gx_5_2 hv hI
    . exact gx_5_3 hv hI
    . exact gx_7_2 hv hI
    . exact Qbr hv hI
    . exact Qbq hv hI
end Go.Proofs.YtngdhnijkgjhcaaGreat
namespace Go.Proofs.YtngdhnijkgjhcaaGreat
def vo (l : List Int) : Vec := fun i => l.getD i 0
theorem JW (l : List Int) (i : Nat) : gi l (i : Int) = vo l i := rfl
theorem Qv (l : List Int) (i : Nat) (x : Int) : si l (i : Int) x = l.set i x := rfl
theorem Jey (a b : Nat) : (a : Int).tmod (b : Int) = ((a % b : Nat) : Int) := rfl
theorem Jxb (a b : Nat) : (a : Int).tdiv (b : Int) = ((a / b : Nat) : Int) := rfl
theorem Qi (l : List Int) (i j : Nat) (x : Int) : vo (l.set i x) j = if i = j /\ i < l.length then x else vo l j := by
 unfold vo; rw [List.getD_eq_getElem?_getD, List.getD_eq_getElem?_getD, List.getElem?_set]; by_cases h : i = j
 .subst h; by_cases h2 : i < l.length
  .simp [h2]
  .simp [h2]
 .simp [h]
theorem Jng (n : Nat) (i : Nat) : vo (List.replicate n (0 : Int)) i = 0 := by
 unfold vo; rw [List.getD_eq_getElem?_getD, List.getElem?_replicate]; split <;> rfl
theorem Jb5 {l : List Int} {i : Nat} (h : l.length <= i) : vo l i = 0 := by
 unfold vo; rw [List.getD_eq_getElem?_getD, List.getElem?_eq_none h]; rfl
theorem QZ {l o : List Int} (h : l.length = o.length) (hv : ∀ i, i < l.length -> vo l i = vo o i) : l = o := by
 refine List.ext_getElem h fun i h1 h2 => ?_; have := hv i h1; unfold vo at this; rw [List.getD_eq_getElem?_getD, List.getD_eq_getElem?_getD, List.getElem?_eq_getElem h1, List.getElem?_eq_getElem h2] at this; exact this
theorem JB {x : Int} (h : -1000000000000 <= x) (h2 : x <= 1000000000000) : I64 x := ⟨by omega, by omega⟩
theorem Zy {n : Nat} (h : n <= 1000000000000) : I64 (n : Int) := JB (by omega) (by omega)
def dgi (p n x : Nat) : List Int := (dgl p n x).map fun (a : Nat) => (a : Int)
theorem Qg (p n x : Nat) : (dgi p n x).length = n := by simp [dgi, Yg]
theorem Yi {p n x i : Nat} (h : i < n) : vo (dgi p n x) i = dv p x i := by
 rw [<- Jeo p n x i h]; unfold vo dgi; rw [List.getD_eq_getElem?_getD, List.getElem?_map, List.getD_eq_getElem?_getD]; rw [List.getElem?_eq_getElem (by rw [Yg]; exact h)]; rfl
theorem Jw8 {b : Bool} {Q : Int -> Prop} (h : Q (if b = true then 0 else 1)) : Jhh b Q := by
 cases b
 .exact ⟨fun h' => absurd h' (by decide), fun _ => h⟩
 .exact ⟨fun _ => h, fun h' => absurd h' (by decide)⟩
theorem Qbm {n k : Nat} (hn : 2 <= n) (hk : n < k * k) (h : ∀ e, e < k -> 2 <= e -> n % e ≠ 0) : IsLf n n := by
 refine ⟨hn, Nat.mod_self n, fun e he hm => ?_⟩; rcases Nat.lt_or_ge e k with hc | hc
 .exact absurd hm (h e hc he)
 .obtain ⟨t, ht⟩ := Nat.dvd_of_mod_eq_zero hm; have hq1 : t < k := by
   rcases Nat.lt_or_ge t k with h1 | h1
   .exact h1
   .have := Nat.mul_le_mul hc h1; omega
  rcases Nat.lt_or_ge t 2 with h2 | h2
  .have : t = 0 ∨ t = 1 := by omega
   rcases this with rfl | rfl
   .omega
   .omega
  .exact absurd (Nat.mod_eq_zero_of_dvd ⟨e, by rw [ht, Nat.mul_comm]⟩) (h t hq1 h2)
theorem Jf8 {x : Nat} {Q : Int -> Prop} (h2 : 2 <= x) (hx : x <= 256) (h : ∀ d : Nat, IsLf x d -> Q d) : YB x Q := by
 refine ⟨fun z => ∃ k : Nat, z = k /\ 2 <= k /\ k <= 17 /\ ∀ e, e < k -> 2 <= e -> x % e ≠ 0, fun z => (20 - z).toNat, ⟨2, rfl, by omega, by omega, fun e _ _ => by omega⟩, ?_⟩; rintro _ ⟨k, rfl, hk2, hk, hm⟩; dsimp only; have e1 : ((k : Nat) : Int) * (k : Int) = ((k * k : Nat) : Int) := by push_cast; rfl
 have hb : k * k <= 17 * 17 := Nat.mul_le_mul hk hk; rw [e1]; refine ⟨JB (by omega) (by omega), fun hle => ⟨by omega, ?_, ?_⟩, fun hgt => ?_⟩
 .intro h0; rw [Jey] at h0; refine h k ⟨hk2, by omega, fun e he h3 => ?_⟩; rcases Nat.lt_or_ge e k with hc | hc
  .exact absurd h3 (hm e hc he)
  .exact hc
 .intro h0; rw [Jey] at h0; have hk16 : k <= 16 := by
   rcases Nat.lt_or_ge 16 k with hc | hc
   .have := Nat.mul_le_mul hc hc; omega
   .exact hc
  refine ⟨JB (by omega) (by omega), ⟨k + 1, by push_cast; rfl, by omega, by omega, fun e he h3 => ?_⟩, by omega⟩; rcases Nat.lt_or_ge e k with hc | hc
  .exact hm e hc h3
  .rw [show e = k by omega]; omega
 .exact h x (Qbm h2 (by omega) hm)
theorem IsLf.uniq {n d e : Nat} (h : IsLf n d) (h' : IsLf n e) : d = e := Nat.le_antisymm (h.min e h'.two h'.dvd) (h'.min d h.two h.dvd)
theorem Jss {x : Int} {Q : Bool -> Prop} (hx : x <= 256) (h : ∀ b : Bool, (b = true ↔ 2 <= x /\ IsLf x.toNat x.toNat) -> Q b) : Jbw x Q := by
 refine ⟨fun h2 => ?_, fun h2 => h false ⟨fun h' => by (cases h'), fun h' => absurd h'.1 h2⟩⟩; obtain ⟨n, rfl⟩ := Int.eq_ofNat_of_zero_le (show 0 <= x by omega); refine Jf8 (by omega) (by omega) fun d hd => h _ ?_; rw [decide_eq_true_iff, Int.toNat_natCast]; constructor
 .intro he; have : d = n := by omega
  subst this; exact ⟨h2, hd⟩
 .rintro ⟨_, hn⟩; rw [hd.uniq hn]
theorem Jw3 {x : Nat} {Q : Bool -> Prop} (h2 : 2 <= x) (hx : x <= 256) (h : ∀ b : Bool, (b = true ↔ IsLf x x) -> Q b) : Jdr x Q := by
 refine ⟨fun z => ∃ k : Nat, z = k /\ 2 <= k /\ k <= x /\ ∀ e, e < k -> 2 <= e -> x % e ≠ 0, fun z => (x - z).toNat, ⟨2, rfl, by omega, by omega, fun e _ _ => by omega⟩, ?_⟩; rintro _ ⟨k, rfl, hk2, hk, hm⟩; dsimp only; refine ⟨fun hlt => ⟨by omega, fun h0 => ?_, fun h0 => ?_⟩, fun hge => ?_⟩
 .rw [Jey] at h0; refine h false ⟨fun h' => by (cases h'), fun hp => ?_⟩; have := hp.min k hk2 (by omega); omega
 .rw [Jey] at h0; refine ⟨JB (by omega) (by omega), ⟨k + 1, by push_cast; rfl, by omega, by omega, fun e he h3 => ?_⟩, by omega⟩; rcases Nat.lt_or_ge e k with hc | hc
  .exact hm e hc h3
  .rw [show e = k by omega]; omega
 .refine h true ⟨fun _ => ⟨h2, Nat.mod_self x, fun e he h0 => ?_⟩, fun _ => rfl⟩; rcases Nat.lt_or_ge e x with hc | hc
  .exact absurd h0 (hm e (by omega) he)
  .exact hc
theorem QM {p a b : Nat} (hp : 0 < p) (h : a <= b) : p ^ a <= p ^ b := Nat.pow_le_pow_right hp h
theorem Jix {p : Nat} {M : Int} {mf : List Int} {Q : Int -> Prop} (hp : 2 <= p) (hp2 : p <= 256) (h : ∀ r : Int, (p ^ M.toNat <= 256 -> r = ((p ^ M.toNat : Nat) : Int)) -> (256 < p ^ M.toNat -> 256 < r) -> Q r) : Jav p M mf Q := by
 refine ⟨fun r => (p ^ M.toNat <= 256 -> r = ((p ^ M.toNat : Nat) : Int)) /\ (256 < p ^ M.toNat -> 256 < r), ⟨fun z i => ∃ k : Nat, i = k /\ k <= M.toNat /\ z = ((p ^ k : Nat) : Int) /\ p ^ k <= 65536 /\ k <= 16, fun z i => (20 - i).toNat, ⟨0, rfl, Nat.zero_le _, by simp, by simp, by omega⟩, ?_⟩, fun r hr => h r hr.1 hr.2⟩; rintro _ _ ⟨k, rfl, hk, rfl, hb, hk16⟩; dsimp only; refine ⟨fun hlt => ⟨fun hle => ?_, fun hgt => ?_⟩, fun hge => ?_⟩
 .have hk8 : p ^ k <= 256 := by omega
  have hkk : k < 16 := by
   rcases Nat.lt_or_ge k 16 with hc | hc
   .exact hc
   .have h1 := QM (p := p) (by omega) hc; have h2 : 2 ^ 16 <= p ^ 16 := Nat.pow_le_pow_left hp 16; omega
  have e1 : ((p ^ k : Nat) : Int) * (p : Int) = ((p ^ (k + 1) : Nat) : Int) := by rw [Nat.pow_succ]; push_cast; rfl
  have hb2 : p ^ (k + 1) <= 65536 := by
   rw [Nat.pow_succ]; have := Nat.mul_le_mul hk8 hp2; omega
  rw [e1]; exact ⟨JB (by omega) (by omega), JB (by omega) (by omega), ⟨k + 1, by push_cast; rfl, by omega, rfl, hb2, by omega⟩, by omega⟩
 .have := QM (p := p) (by omega) hk; exact ⟨fun h' => by omega, fun _ => by omega⟩
 .have : k = M.toNat := by omega
  subst this; exact ⟨fun _ => rfl, fun h' => by omega⟩
def Jhs (P M : Int) : Int := if 2 <= P /\ 1 <= M /\ P.toNat ^ M.toNat <= 256 then ((P.toNat ^ M.toNat : Nat) : Int) else 0
theorem Jf7 {P M : Int} {mf : List Int} {Q : Int -> Prop} (h : Q (Jhs P M)) : ZP P M mf Q := by
 refine ⟨fun h1 => ?_, fun h1 => ⟨fun h2 => ?_, fun h2 => ⟨fun h3 => ?_, fun h3 => ?_⟩⟩⟩
 .rw [Jhs, if_neg (by omega)] at h; exact h
 .rw [Jhs, if_neg (by omega)] at h; exact h
 .rw [Jhs, if_neg] at h
  .exact h
  .rintro ⟨h4, h5, h6⟩; have e1 : 2 ^ 9 <= P.toNat ^ 9 := Nat.pow_le_pow_left (by omega) 9; have e2 := QM (p := P.toNat) (by omega) (show 9 <= M.toNat by omega); omega
 .obtain ⟨p, rfl⟩ := Int.eq_ofNat_of_zero_le (show 0 <= P by omega); obtain ⟨m, rfl⟩ := Int.eq_ofNat_of_zero_le (show 0 <= M by omega); refine ⟨fun z i => ∃ k : Nat, i = k /\ k <= m /\ z = ((p ^ k : Nat) : Int) /\ p ^ k <= 256, fun z i => (20 - i).toNat, ⟨0, rfl, Nat.zero_le _, by simp, by simp⟩, ?_⟩; rintro _ _ ⟨k, rfl, hk, rfl, hb⟩; dsimp only; rw [show (256 : Int) = ((256 : Nat) : Int) from rfl, Jxb]; have hd : 256 / p <= 256 := Nat.div_le_self _ _; have hdm : ∀ a, a <= 256 / p ↔ a * p <= 256 := fun a => Nat.le_div_iff_mul_le (show 0 < p by omega); generalize 256 / p = D at *
  refine ⟨fun hlt => ⟨⟨by omega, JB (by omega) (by omega)⟩, fun hgt => ?_, fun hle => ?_⟩, fun hge => ?_⟩
  .rw [Jhs, if_neg] at h
   .exact h
   .rintro ⟨_, _, h6⟩; simp only [Int.toNat_natCast] at h6; have h7 : p ^ (k + 1) <= 256 := Nat.le_trans (QM (by omega) (by omega)) h6; rw [Nat.pow_succ] at h7; have := (hdm _).2 h7; omega
  .have h7 : p ^ (k + 1) <= 256 := by rw [Nat.pow_succ]; exact (hdm _).1 (by omega)
   have e1 : ((p ^ k : Nat) : Int) * (p : Int) = ((p ^ (k + 1) : Nat) : Int) := by rw [Nat.pow_succ]; push_cast; rfl
   rw [e1]; exact ⟨JB (by omega) (by omega), JB (by omega) (by omega), ⟨k + 1, by push_cast; rfl, by omega, rfl, h7⟩, by omega⟩
  .have : k = m := by omega
   subst this; rw [Jhs, if_pos ⟨by omega, by omega, by simpa using hb⟩] at h
   simpa using h
theorem Jde (x p i : Nat) : x / p ^ i / p = x / p ^ (i + 1) := by rw [Nat.div_div_eq_div_mul, Nat.pow_succ]
theorem Jga {p n x : Nat} {Q : List Int -> Prop} (hp : 0 < p) (hn : n <= 1000) (hx : x <= 1000) (h : Q (dgi p n x)) : ZU p n x Q := by
 refine ⟨⟨by omega, by omega, by omega⟩, fun l z i => ∃ k : Nat, i = k /\ k <= n /\ z = ((x / p ^ k : Nat) : Int) /\ l.length = n /\ ∀ j, j < k -> vo l j = dv p x j, fun l z i => (n - i).toNat, ⟨0, rfl, Nat.zero_le _, by simp, by simp, fun j hj => by omega⟩, ?_⟩; rintro l _ _ ⟨k, rfl, hk, rfl, hl, hv⟩; dsimp only; have hd : x / p ^ k <= x := Nat.div_le_self _ _; have hd2 : x / p ^ k / p <= x / p ^ k := Nat.div_le_self _ _; rw [Jxb, Jey, Qv]; simp only [Int.toNat_natCast]; refine ⟨fun hlt => ⟨by omega, ⟨by omega, by omega⟩, ⟨by omega, Zy (by omega)⟩, JB (by omega) (by omega), ⟨k + 1, by push_cast; rfl, by omega, by rw [Jde], by rw [List.length_set, hl], fun j hj => ?_⟩, by omega⟩, fun hge => ?_⟩
 .rw [Qi]; by_cases hjk : k = j
  .subst hjk; rw [if_pos ⟨rfl, by omega⟩]; rfl
  .rw [if_neg (by omega)]; exact hv j (by omega)
 .have : l = dgi p n x := QZ (by rw [hl, Qg]) fun j hj => by rw [hv j (by omega), Yi (by omega)]
  rw [this]; exact h
theorem Jh6 {p n x : Nat} {Q : List Int -> Prop} (hp : 0 < p) (hn : n <= 1000) (hx : x <= 1000) (h : Q (dgi p n x)) : ZO x p n Q := by
 refine ⟨⟨by omega, by omega, by omega⟩, fun l z i => ∃ k : Nat, i = k /\ k <= n /\ z = ((x / p ^ k : Nat) : Int) /\ l.length = n /\ ∀ j, j < k -> vo l j = dv p x j, fun l z i => (n - i).toNat, ⟨0, rfl, Nat.zero_le _, by simp, by simp, fun j hj => by omega⟩, ?_⟩; rintro l _ _ ⟨k, rfl, hk, rfl, hl, hv⟩; dsimp only; have hd : x / p ^ k <= x := Nat.div_le_self _ _; have hd2 : x / p ^ k / p <= x / p ^ k := Nat.div_le_self _ _; rw [Jxb, Jey, Qv]; simp only [Int.toNat_natCast]; refine ⟨fun hlt => ⟨by omega, ⟨by omega, by omega⟩, ⟨by omega, Zy (by omega)⟩, JB (by omega) (by omega), ⟨k + 1, by push_cast; rfl, by omega, by rw [Jde], by rw [List.length_set, hl], fun j hj => ?_⟩, by omega⟩, fun hge => ?_⟩
 .rw [Qi]; by_cases hjk : k = j
  .subst hjk; rw [if_pos ⟨rfl, by omega⟩]; rfl
  .rw [if_neg (by omega)]; exact hv j (by omega)
 .have : l = dgi p n x := QZ (by rw [hl, Qg]) fun j hj => by rw [hv j (by omega), Yi (by omega)]
  rw [this]; exact h
theorem Jkw {p m x : Nat} {mf : List Int} {Q : Int -> Prop} (hp : 2 <= p) (hp2 : p <= 256) (hx : x <= 256) (h : Q ((if x % p = p - 1 then x - x % p else x + 1 : Nat) : Int)) : Zs p m mf x Q := by
 have hm := Nat.mod_lt x (show 0 < p by omega); have hm2 := Nat.mod_le x p; refine ⟨by omega, JB (by omega) (by omega), fun h0 => ⟨by omega, ?_⟩, fun h0 => ?_⟩
 .rw [Jey] at h0 ⊢; rw [if_pos (by omega)] at h; refine ⟨JB (by omega) (by omega), ?_⟩; rw [show (x : Int) - ((x % p : Nat) : Int) = ((x - x % p : Nat) : Int) by omega]; exact h
 .rw [Jey] at h0; rw [if_neg (by omega)] at h; exact ⟨JB (by omega) (by omega), by push_cast at h ⊢; exact h⟩
theorem Jcz {l : List Int} {Q : List Int -> Prop} (hl : l.length <= 1000000) (h : Q l) : Zb l Q := by
 intro b hb; refine ⟨fun h1 => by rw [<- hb h1]; exact h, fun _ => ⟨by omega, by simpa using h⟩⟩
end Go.Proofs.YtngdhnijkgjhcaaGreat
namespace Go.Proofs.YtngdhnijkgjhcaaGreat
theorem Jbr {l : List Int} {f : Int -> Bool} : l.any f = true ↔ ∃ i, i < l.length /\ f (vo l i) = true := by
  rw [List.any_eq_true]
  constructor
  . rintro ⟨x, hx, hf⟩
    obtain ⟨i, hi, rfl⟩ := List.mem_iff_getElem.1 hx
    refine ⟨i, hi, ?_⟩
    unfold vo; rw [List.getD_eq_getElem?_getD, List.getElem?_eq_getElem hi]; exact hf
  . rintro ⟨i, hi, hf⟩
    unfold vo at hf
    rw [List.getD_eq_getElem?_getD, List.getElem?_eq_getElem hi] at hf
    exact ⟨l[i], List.getElem_mem hi, hf⟩
theorem Jch {l : List Int} {p : Int -> (Bool -> Prop) -> Prop} {f : Int -> Bool} {Q : Bool -> Prop} (hl : l.length <= 1000000000) (hp : ∀ x (R : Bool -> Prop), R (f x) -> p x R) (h : Q (l.any f)) : Q8 l p Q := by
 refine ⟨fun z => ∃ k : Nat, z = k /\ k <= l.length /\ ∀ j, j < k -> f (vo l j) = false, fun z => (l.length - z).toNat, ⟨0, rfl, Nat.zero_le _, fun j hj => by omega⟩, ?_⟩; rintro _ ⟨k, rfl, hk, hv⟩; dsimp only; refine ⟨fun hlt => ⟨⟨by omega, by omega⟩, hp _ _ ⟨fun hb => ?_, fun hb => ⟨JB (by omega) (by omega), ⟨k + 1, by push_cast; rfl, by omega, fun j hj => ?_⟩, by omega⟩⟩⟩, fun hge => ?_⟩
 .rw [Jbr.2 ⟨k, by omega, hb⟩] at h; rw [decide_eq_true (by omega)]; exact h
 .rw [JW] at hb; by_cases hjk : j = k
  .subst hjk; exact hb
  .exact hv j (by omega)
 .have : l.any f = false := by
   cases hb : l.any f with
   | false => rfl
   | true =>
    obtain ⟨i, hi, hf⟩ := Jbr.1 hb; rw [hv i (by omega)] at hf; cases hf
  rw [this] at h; exact h
theorem Ji7 {p : Nat} {a l c : Int} (hp : 0 < p) (ha : 0 <= a) (hl : l <= p) (hc : 0 <= c) : (a + ((p : Int) - l) * c).tmod p = (a - l * c) % (p : Int) := by
 have h1 : 0 <= ((p : Int) - l) * c := Int.mul_nonneg (by omega) hc; rw [Int.tmod_eq_emod_of_nonneg (by omega)]; have : a + ((p : Int) - l) * c = (a - l * c) + p * c := by rw [Int.sub_mul]; omega
 rw [this, Int.add_mul_emod_self_left]
theorem Jnw {p d n : Nat} {l R : Vec} (hp : 0 < p) {N : Nat} (hR : Cn p N R) : ∀ k, Cn p N (rem p d l R n k)
 | 0 => hR
 | k + 1 => fun j hj => by
  show 0 <= rst _ _ _ _ _ j /\ rst _ _ _ _ _ j < _; unfold rst; split
  .exact ⟨Int.emod_nonneg _ (by omega), Int.emod_lt_of_pos _ (by omega)⟩
  .exact Jnw hp hR k j hj
theorem Jbb {a b : Int} {p : Nat} (hp : p <= 256) (ha : 0 <= a /\ a <= p) (hb : 0 <= b /\ b <= p) : 0 <= a * b /\ a * b <= 65536 := by
 obtain ⟨x, rfl⟩ := Int.eq_ofNat_of_zero_le ha.1; obtain ⟨y, rfl⟩ := Int.eq_ofNat_of_zero_le hb.1; have : x * y <= 256 * 256 := Nat.mul_le_mul (by omega) (by omega); have e : ((x : Int)) * (y : Int) = ((x * y : Nat) : Int) := by push_cast; rfl
 rw [e]; omega
theorem Jiz {l : List Int} {n i : Nat} (h : i < n) : vo (l.take n) i = vo l i := by
 unfold vo; rw [List.getD_eq_getElem?_getD, List.getD_eq_getElem?_getD, List.getElem?_take, if_pos h]
theorem Jh8 {p : Nat} {l o : List Int} {Q : Bool -> Prop} (hp : 0 < p) (hp2 : p <= 256) (hl : Cn p l.length (vo l)) (ho : Cn p o.length (vo o)) (hd : 0 < l.length) (hdn : l.length <= o.length) (hn : o.length <= 1000)
  (h : ∀ b : Bool, (b = true ↔ Dvd p l.length (vo l) (vo o) o.length) -> Q b) : ZT p l o Q := by
 refine Jcz (by omega) ⟨JB (by omega) (by omega), ?_⟩; generalize hdd : l.length = d at *
 generalize hnn : o.length = n at *
 refine ⟨fun x z => ∃ k : Nat, z = (n : Int) - 1 - k /\ k <= n - d /\ x.length = n /\ ∀ j, j < n -> vo x j = rem p d (vo l) (vo o) n k j, fun x z => (z + 1).toNat, ⟨0, by omega, by omega, hnn, fun j _ => rfl⟩, ?_⟩; rintro x _ ⟨k, rfl, hk, hx, hv⟩; dsimp only; have hc := Jnw (d := d) (l := vo l) (n := n) hp ho k; refine ⟨fun hle => ?_, fun hgt => ?_⟩
 .obtain ⟨i, hi⟩ : ∃ i : Nat, (n : Int) - 1 - k = i := ⟨n - 1 - k, by omega⟩
  rw [hi]; have hin : i = n - 1 - k := by omega
  refine ⟨fun y z => ∃ t : Nat, z = t /\ t <= d /\ y.length = n /\ ∀ j, j < n -> vo y j = if i <= j + d /\ j + d < i + t then rem p d (vo l) (vo o) n (k + 1) j else rem p d (vo l) (vo o) n k j, fun y z => (d - z).toNat, ⟨0, rfl, Nat.zero_le _, hx, fun j hj => by rw [if_neg (by omega)]; exact hv j hj⟩, ?_⟩; rintro y _ ⟨t, rfl, ht, hy, hw⟩; dsimp only; have e1 : (i : Int) - (d : Int) + (t : Int) = ((i - d + t : Nat) : Int) := by omega
  rw [e1, JW, JW, JW, Qv]; have hyi : vo y i = rem p d (vo l) (vo o) n k i := by rw [hw i (by omega), if_neg (by omega)]
  refine ⟨fun hlt => ?_, fun hge => ?_⟩
  .have hyj : vo y (i - d + t) = rem p d (vo l) (vo o) n k (i - d + t) := by rw [hw _ (by omega), if_neg (by omega)]
   have c1 := hl t (by omega); have c2 := hc i (by omega); have c3 := hc (i - d + t) (by omega); rw [hyi, hyj]; have c4 := Jbb (a := (p : Int) - vo l t) (b := rem p d (vo l) (vo o) n k i) hp2 ⟨by omega, by omega⟩ ⟨c2.1, by omega⟩; refine ⟨⟨by omega, by omega⟩, JB (by omega) (by omega), JB (by omega) (by omega), ⟨by omega, by omega⟩, JB (by omega) (by omega), ⟨by omega, by omega⟩, JB (by omega) (by omega), JB (by omega) (by omega), by omega, ⟨by omega, by omega⟩, JB (by omega) (by omega), ⟨t + 1, by push_cast; rfl, by omega, by rw [List.length_set, hy], fun j hj => ?_⟩, by omega⟩; rw [Qi]; by_cases hjt : i - d + t = j
   .subst hjt; rw [if_pos ⟨rfl, by omega⟩, if_pos (by omega), Ji7 hp c3.1 (by omega) c2.1]; show _ = rst p d (n - 1 - k) (vo l) (rem p d (vo l) (vo o) n k) (i - d + t); unfold rst; rw [<- hin, if_pos (by omega), show i - d + t + d - i = t by omega]
   .rw [if_neg (fun h => hjt h.1), hw j hj]; by_cases hc2 : i <= j + d /\ j + d < i + t
    .rw [if_pos hc2, if_pos (by omega)]
    .rw [if_neg hc2, if_neg (by omega)]
  .refine ⟨JB (by omega) (by omega), ⟨k + 1, by omega, by omega, hy, fun j hj => ?_⟩, by omega⟩; rw [hw j hj]; have htd : t = d := by omega
   by_cases hc2 : i <= j + d /\ j + d < i + t
   .rw [if_pos hc2]
   .rw [if_neg hc2]; show _ = rst p d (n - 1 - k) (vo l) (rem p d (vo l) (vo o) n k) j; unfold rst; rw [<- hin, if_neg (by omega)]
 .refine ⟨⟨by omega, by omega⟩, Jch (f := fun x => decide (x ≠ 0)) (by rw [List.length_take]; omega) (fun x R hR => hR) (h _ ?_)⟩; have hkk : k = n - d := by omega
  have hlen : (x.take (d : Int).toNat).length = d := by rw [List.length_take]; omega
  rw [Bool.not_eq_true']; constructor
  .intro hb j hj; have h2 : ¬ (x.take (d : Int).toNat).any (fun x => decide (x ≠ 0)) = true := by rw [hb]; decide
   rw [Jbr] at h2; have h3 : decide (vo (x.take (d : Int).toNat) j ≠ 0) = false := by
    cases hc3 : decide (vo (x.take (d : Int).toNat) j ≠ 0) with
    | false => rfl
    | true => exact absurd ⟨j, by omega, hc3⟩ h2
   rw [Jiz (by simpa using hj), hv j (by omega), hkk] at h3; have h4 := of_decide_eq_false h3; omega
  .intro hD; cases hb : (x.take (d : Int).toNat).any (fun x => decide (x ≠ 0)) with
   | false => rfl
   | true =>
    obtain ⟨i, hi, hf⟩ := Jbr.1 hb; rw [Jiz (by simpa using (by omega : i < d)), hv i (by omega), hkk, hD i (by omega)] at hf; exact absurd hf (by decide)
theorem Jff (o : List Int) : vo (o ++ [(1 : Int)]) = fun i => if i = o.length then 1 else vo o i := by
 funext i; unfold vo; rw [List.getD_eq_getElem?_getD, List.getD_eq_getElem?_getD]; rcases Nat.lt_trichotomy i o.length with h | h | h
 .rw [List.getElem?_append_left h, if_neg (by omega)]
 .subst h; simp
 .rw [if_neg (by omega), List.getElem?_eq_none (by simp; omega), List.getElem?_eq_none (by omega)]
theorem Jq4 {p : Nat} {o : List Int} (hp : 2 <= p) (ho : Cn p o.length (vo o)) : Cn p (o.length + 1) (vo (o ++ [(1 : Int)])) := fun i hi => by
 rw [Jff]; dsimp only; split
 .omega
 .exact ho i (by omega)
theorem Jnj {p : Nat} {l o : List Int} {Q : Bool -> Prop} (hp : 2 <= p) (hp2 : p <= 256) (hl : Cn p l.length (vo l)) (ho : Cn p o.length (vo o)) (hd : 0 < l.length) (hdn : l.length <= o.length) (hn : o.length <= 1000)
  (h : ∀ b : Bool, (b = true ↔ Dvd p l.length (vo l) (fun i => if i = o.length then 1 else vo o i) (o.length + 1)) -> Q b) : Zi l o p Q := by
 unfold Zi; simp only [List.nil_append]; rw [<- Jff] at h; have hcR := Jq4 hp ho; have hnn : (o ++ [(1 : Int)]).length = o.length + 1 := by simp
 refine ⟨by omega, by omega, JB (by omega) (by omega), ?_⟩; generalize hdd : l.length = d at *
 generalize hN : o.length + 1 = n at *
 generalize hoo : o ++ [(1 : Int)] = r at *
 refine ⟨fun x z => ∃ k : Nat, z = (n : Int) - 1 - k /\ k <= n - d /\ x.length = n /\ ∀ j, j < n -> vo x j = if j + k < n then rem p d (vo l) (vo r) n k j else 0, fun x z => (z + 1).toNat, ⟨0, by omega, by omega, hnn, fun j hj => by rw [if_pos (by omega)]; rfl⟩, ?_⟩; rintro x _ ⟨k, rfl, hk, hx, hv⟩; dsimp only; have hc := Jnw (d := d) (l := vo l) (n := n) (p := p) (by omega) hcR k; refine ⟨fun hle => ⟨⟨by omega, by omega⟩, ?_⟩, fun hgt => ?_⟩
 .obtain ⟨i, hi⟩ : ∃ i : Nat, (n : Int) - 1 - k = i := ⟨n - 1 - k, by omega⟩
  rw [hi]; have hin : i = n - 1 - k := by omega
  have hxi : vo x i = rem p d (vo l) (vo r) n k i := by rw [hv i (by omega), if_pos (by omega)]
  refine ⟨fun y z => ∃ t : Nat, z = t /\ t <= d /\ y.length = n /\ ∀ j, j < n -> vo y j = if i <= j + d /\ j + d < i + t then rem p d (vo l) (vo r) n (k + 1) j else vo x j, fun y z => (d - z).toNat, ⟨0, rfl, Nat.zero_le _, hx, fun j hj => by rw [if_neg (by omega)]⟩, ?_⟩; rintro y _ ⟨t, rfl, ht, hy, hw⟩; dsimp only; have e1 : (i : Int) - (d : Int) + (t : Int) = ((i - d + t : Nat) : Int) := by omega
  rw [e1, JW, JW, JW, Qv, Qv]; refine ⟨fun hlt => ?_, fun hge => ?_⟩
  .have hyj : vo y (i - d + t) = rem p d (vo l) (vo r) n k (i - d + t) := by rw [hw _ (by omega), if_neg (by omega), hv _ (by omega), if_pos (by omega)]
   have c1 := hl t (by omega); have c2 := hc i (by omega); have c3 := hc (i - d + t) (by omega); rw [hxi, hyj]; have c4 := Jbb (a := (p : Int) - rem p d (vo l) (vo r) n k i) (b := vo l t) hp2 ⟨by omega, by omega⟩ ⟨c1.1, by omega⟩; refine ⟨JB (by omega) (by omega), JB (by omega) (by omega), JB (by omega) (by omega), JB (by omega) (by omega), ⟨by omega, by omega⟩, JB (by omega) (by omega), ⟨by omega, by omega⟩, JB (by omega) (by omega), JB (by omega) (by omega), by omega, ⟨by omega, by omega⟩, JB (by omega) (by omega), ⟨t + 1, by push_cast; rfl, by omega, by rw [List.length_set, hy], fun j hj => ?_⟩, by omega⟩; rw [Qi]; by_cases hjt : i - d + t = j
   .subst hjt; rw [if_pos ⟨rfl, by omega⟩, if_pos (by omega), Ji7 (by omega) c3.1 (by omega) c1.1]; show _ = rst p d (n - 1 - k) (vo l) (rem p d (vo l) (vo r) n k) (i - d + t); unfold rst; rw [<- hin, if_pos (by omega), show i - d + t + d - i = t by omega, Int.mul_comm]
   .rw [if_neg (fun h => hjt h.1), hw j hj]; by_cases hc2 : i <= j + d /\ j + d < i + t
    .rw [if_pos hc2, if_pos (by omega)]
    .rw [if_neg hc2, if_neg (by omega)]
  .refine ⟨⟨by omega, by omega⟩, JB (by omega) (by omega), ⟨k + 1, by omega, by omega, by rw [List.length_set, hy], fun j hj => ?_⟩, by omega⟩; rw [Qi]; by_cases hij : i = j
   .subst hij; rw [if_pos ⟨rfl, by omega⟩, if_neg (by omega)]
   .rw [if_neg (fun h => hij h.1), hw j hj]; have htd : t = d := by omega
    by_cases hc2 : i <= j + d /\ j + d < i + t
    .rw [if_pos hc2, if_pos (by omega)]
    .rw [if_neg hc2, hv j hj]; by_cases hjk : j + k < n
     .rw [if_pos hjk, if_pos (by omega)]; show _ = rst p d (n - 1 - k) (vo l) (rem p d (vo l) (vo r) n k) j; unfold rst; rw [<- hin, if_neg (by omega)]
     .rw [if_neg hjk, if_neg (by omega)]
 .have hkk : k = n - d := by omega
  refine ⟨fun z => ∃ t : Nat, z = t /\ t <= n /\ ∀ j, j < t -> vo x j = 0, fun z => (n - z).toNat, ⟨0, rfl, Nat.zero_le _, fun j hj => by omega⟩, ?_⟩; rintro _ ⟨t, rfl, ht, hz⟩; dsimp only; rw [JW]; refine ⟨fun hlt => ⟨⟨by omega, by omega⟩, fun hne => ?_, fun heq => ⟨JB (by omega) (by omega), ⟨t + 1, by push_cast; rfl, by omega, fun j hj => ?_⟩, by omega⟩⟩, fun hge => ?_⟩
  .refine h false ⟨fun h' => absurd h' (by decide), fun hD => ?_⟩; rw [hv t (by omega)] at hne; by_cases hc2 : t + k < n
   .rw [if_pos hc2, hkk, hD t (by omega)] at hne; exact absurd rfl hne
   .rw [if_neg hc2] at hne; exact absurd rfl hne
  .by_cases hjt : j = t
   .subst hjt; omega
   .exact hz j (by omega)
  .refine h true ⟨fun _ j hj => ?_, fun _ => rfl⟩; have h1 := hz j (by omega); rw [hv j (by omega), if_pos (by omega), hkk] at h1; exact h1
theorem ZB {p d w : Nat} (hw : w < p ^ d) : vo (dgi p d w) = dv p w := by
 funext i; rcases Nat.lt_or_ge i d with h | h
 .exact Yi h
 .rw [Jb5 (by rw [Qg]; exact h), Jyy hw h]
theorem Jep {p d w : Nat} (hp : 0 < p) (hw : w < p ^ d) (n : Nat) : Cn p n (vo (dgi p d w)) := by rw [ZB hw]; exact Jik hp w n
theorem Qar {p m : Nat} {mf : List Int} {Q : Bool -> Prop} (hp : 2 <= p) (hp2 : p <= 256) (hm : mf.length = m) (hq : p ^ m <= 256) (hc : Cn p m (vo mf))
  (h : ∀ b : Bool, (b = true ↔ Irr p m (vo mf)) -> Q b) : Yh p m mf Q := by
 have hm9 : m <= 8 := by
  rcases Nat.lt_or_ge 8 m with h1 | h1
  .have e1 : 2 ^ 9 <= p ^ 9 := Nat.pow_le_pow_left (by omega) 9; have e2 := QM (p := p) (by omega) (show 9 <= m by omega); omega
  .exact h1
 refine Jcz (by omega) ⟨by omega, ?_⟩; have hlen : (mf ++ [(1 : Int)]).length = m + 1 := by simp [hm]
 have hcs : Cn p (m + 1) (vo (mf ++ [(1 : Int)])) := by have := Jq4 hp (o := mf) (by rw [hm]; exact hc); rwa [hm] at this
 have hpd : ∀ d, 2 * d <= m -> p ^ d <= 256 := fun d hd => Nat.le_trans (QM (by omega) (by omega)) hq; refine ⟨fun a b => ∃ d : Nat, a = d /\ 1 <= d /\ 2 * (d - 1) <= m /\ b = ((p ^ d : Nat) : Int) /\ p ^ d <= 65536 /\ ∀ e, 0 < e -> e < d -> 2 * e <= m -> ∀ w, w < p ^ e -> ¬ Dvd p e (dv p w) (fun i => if i = m then 1 else vo mf i) (m + 1), fun a b => (20 - a).toNat, ⟨1, rfl, by omega, by omega, by simp, by simp; omega, fun e h1 h2 => by omega⟩, ?_⟩; rintro _ _ ⟨d, rfl, hd1, hd2, rfl, hdp, hnd⟩; dsimp only; refine ⟨JB (by omega) (by omega), fun hle => ?_, fun hgt => ?_⟩
 .have hpd' := hpd d (by omega); refine ⟨fun z => ∃ w : Nat, z = w /\ w <= p ^ d /\ ∀ u, u < w -> ¬ Dvd p d (dv p u) (fun i => if i = m then 1 else vo mf i) (m + 1), fun z => ((p ^ d : Nat) - z).toNat, ⟨0, rfl, Nat.zero_le _, fun u hu => by omega⟩, ?_⟩; rintro _ ⟨w, rfl, hw, hnw⟩; dsimp only; refine ⟨fun hlt => ?_, fun hge => ?_⟩
  .have hw2 : w < p ^ d := by omega
   refine ⟨_, Jga (by omega) (by omega) (by omega) rfl, ?_⟩; have hdl := Qg p d w; refine (?_ : ∃ r : Bool, ZT p (dgi p d w) (mf ++ [(1 : Int)]) (fun q => q = r) /\ _); by_cases hD : Dvd p d (dv p w) (fun i => if i = m then 1 else vo mf i) (m + 1)
   .refine ⟨true, Jh8 (by omega) hp2 (by rw [hdl]; exact Jep (by omega) hw2 d) (by rw [hlen]; exact hcs) (by omega) (by omega) (by omega) fun b hb => ?_, fun _ => ?_, fun h' => absurd h' (by decide)⟩
    .rw [hdl, hlen, ZB hw2, Jff, hm] at hb; exact hb.2 hD
    .exact h false ⟨fun h' => absurd h' (by decide), fun hI => absurd hD (hI d (by omega) (by omega) w hw2)⟩
   .refine ⟨false, Jh8 (by omega) hp2 (by rw [hdl]; exact Jep (by omega) hw2 d) (by rw [hlen]; exact hcs) (by omega) (by omega) (by omega) fun b hb => ?_, fun h' => absurd h' (by decide), fun _ => ?_⟩
    .rw [hdl, hlen, ZB hw2, Jff, hm] at hb; cases b with
     | false => rfl
     | true => exact absurd (hb.1 rfl) hD
    .refine ⟨JB (by omega) (by omega), ⟨w + 1, by push_cast; rfl, by omega, fun u hu => ?_⟩, by omega⟩; by_cases huw : u = w
     .subst huw; exact hD
     .exact hnw u (by omega)
  .have e1 : ((p ^ d : Nat) : Int) * (p : Int) = ((p ^ (d + 1) : Nat) : Int) := by rw [Nat.pow_succ]; push_cast; rfl
   have hb2 : p ^ (d + 1) <= 65536 := by
    rw [Nat.pow_succ]; have := Nat.mul_le_mul hpd' hp2; omega
   rw [e1]; refine ⟨JB (by omega) (by omega), Zy (by omega), ⟨d + 1, by push_cast; rfl, by omega, by omega, rfl, hb2, fun e he0 he h2 u hu => ?_⟩, by omega⟩; by_cases hed : e = d
   .subst hed; exact hnw u (by omega)
   .exact hnd e he0 (by omega) h2 u hu
 .exact h true ⟨fun _ e he0 h2 u hu => hnd e he0 (by omega) h2 u hu, fun _ => rfl⟩
theorem v_rirr {p m : Nat} {mf : List Int} {Q : Bool -> Prop} (hp : 2 <= p) (hp2 : p <= 256) (hm : mf.length = m) (hq : p ^ m <= 256) (hc : Cn p m (vo mf))
  (h : ∀ b : Bool, (b = true ↔ Irr p m (vo mf)) -> Q b) : Jhe mf p Q := by
 have hm9 : m <= 8 := by
  rcases Nat.lt_or_ge 8 m with h1 | h1
  .have e1 : 2 ^ 9 <= p ^ 9 := Nat.pow_le_pow_left (by omega) 9; have e2 := QM (p := p) (by omega) (show 9 <= m by omega); omega
  .exact h1
 unfold Jhe; rw [hm]; have hpd : ∀ d, 2 * d <= m -> p ^ d <= 256 := fun d hd => Nat.le_trans (QM (by omega) (by omega)) hq; refine ⟨fun b a => ∃ d : Nat, a = d + 1 /\ 2 * d <= m /\ b = ((p ^ d : Nat) : Int) /\ ∀ e, 0 < e -> e <= d -> 2 * e <= m -> ∀ w, w < p ^ e -> ¬ Dvd p e (dv p w) (fun i => if i = m then 1 else vo mf i) (m + 1), fun b a => (20 - a).toNat, ⟨0, rfl, by omega, by simp, fun e h1 h2 => by omega⟩, ?_⟩; rintro _ _ ⟨d, rfl, hd2, rfl, hnd⟩; dsimp only; have hpd' := hpd d hd2; refine ⟨JB (by omega) (by omega), fun hle => ?_, fun hgt => ?_⟩
 .have e1 : ((p ^ d : Nat) : Int) * (p : Int) = ((p ^ (d + 1) : Nat) : Int) := by rw [Nat.pow_succ]; push_cast; rfl
  have hpd2 := hpd (d + 1) (by omega); rw [e1]; refine ⟨Zy (by omega), ?_⟩; refine ⟨fun z => ∃ w : Nat, z = w /\ w <= p ^ (d + 1) /\ ∀ u, u < w -> ¬ Dvd p (d + 1) (dv p u) (fun i => if i = m then 1 else vo mf i) (m + 1), fun z => ((p ^ (d + 1) : Nat) - z).toNat, ⟨0, rfl, Nat.zero_le _, fun u hu => by omega⟩, ?_⟩; rintro _ ⟨w, rfl, hw, hnw⟩; dsimp only; rw [show (d : Int) + 1 = ((d + 1 : Nat) : Int) by push_cast; rfl]; refine ⟨fun hlt => ?_, fun hge => ?_⟩
  .have hw2 : w < p ^ (d + 1) := by omega
   have hdl := Qg p (d + 1) w; refine Jh6 (by omega) (by omega) (by omega) (Jnj hp hp2 (by rw [hdl]; exact Jep (by omega) hw2 _) (by rw [hm]; exact hc) (by omega) (by omega) (by omega) fun b hb => ?_); rw [hdl, hm, ZB hw2] at hb; refine ⟨fun hb1 => ?_, fun hb0 => ?_⟩
   .exact h false ⟨fun h' => absurd h' (by decide), fun hI => absurd (hb.1 hb1) (hI (d + 1) (by omega) (by omega) w hw2)⟩
   .refine ⟨JB (by omega) (by omega), ⟨w + 1, by push_cast; rfl, by omega, fun u hu => ?_⟩, by omega⟩; by_cases huw : u = w
    .subst huw; intro hD; rw [hb.2 hD] at hb0; exact absurd hb0 (by decide)
    .exact hnw u (by omega)
  .refine ⟨JB (by omega) (by omega), ⟨d + 1, rfl, by omega, rfl, fun e he0 he h2 u hu => ?_⟩, by omega⟩; by_cases hed : e = d + 1
   .subst hed; exact hnw u (by omega)
   .exact hnd e he0 (by omega) h2 u hu
 .exact h true ⟨fun _ e he0 h2 u hu => hnd e he0 (by omega) h2 u hu, fun _ => rfl⟩
structure FV (P M : Int) (mf : List Int) (p m v : Nat) : Prop where
  eP : P = p
  eM : M = m
  pr : IsLf p p
  m0 : 0 < m
  q : p ^ m <= 256
  vlt : v < p ^ m
  m1 : m = 1 -> mf = [] /\ v = 0
  m2 : m ≠ 1 -> mf = dgi p m v
  irr : Irr p m (dv p v)
def YY (P M : Int) (mf : List Int) : Prop := ∃ p m v, FV P M mf p m v
open Classical in
noncomputable def ck (P M : Int) (mf : List Int) : Int := if YY P M mf then 0 else 1
theorem Jil {P M : Int} {mf : List Int} (h : YY P M mf) : ck P M mf = 0 := if_pos h
theorem YW {P M : Int} {mf : List Int} (h : ¬ YY P M mf) : ck P M mf = 1 := if_neg h
theorem Qbp (p : Nat) (c : Vec) : Irr p 1 c := fun d h1 h2 => by omega
theorem Jd2 {p : Nat} (hp : IsLf p p) (hq : p <= 256) : FV p ((1 : Nat) : Int) [] p 1 0 := ⟨rfl, rfl, hp, by omega, by simpa using hq, by have := hp.two; simp; omega, fun _ => ⟨rfl, rfl⟩, fun h => absurd rfl h, Qbp p _⟩
theorem Jrs {p m : Nat} {mf : List Int} (hp : 0 < p) (hl : mf.length = m) (hc : Cn p m (vo mf)) : nm p m (vo mf) < p ^ m /\ mf = dgi p m (nm p m (vo mf)) /\ vo mf = dv p (nm p m (vo mf)) := by
 have hlt := Jb9 (m := m) hp (vo mf); have he : mf = dgi p m (nm p m (vo mf)) := QZ (by rw [hl, Qg]) fun i hi => by
  have h1 := hc i (by omega); rw [Yi (by omega), Jrq hp _ (by omega), Int.emod_eq_of_lt h1.1 h1.2]
 exact ⟨hlt, he, by have := congrArg vo he; rw [ZB hlt] at this; exact this⟩
theorem FV.cn {P M : Int} {mf : List Int} {p m v : Nat} (h : FV P M mf p m v) (hm : m ≠ 1) : mf.length = m /\ Cn p m (vo mf) /\ Irr p m (vo mf) := by
 have := h.pr.two; rw [h.m2 hm]; exact ⟨Qg p m v, Jep (by omega) h.vlt m, by rw [ZB h.vlt]; exact h.irr⟩
theorem FV.vo {P M : Int} {mf : List Int} {p m v : Nat} (h : FV P M mf p m v) : Go.Proofs.YtngdhnijkgjhcaaGreat.vo mf = dv p v := by
 by_cases hm : m = 1
 .rw [(h.m1 hm).1, (h.m1 hm).2, Jg5]; rfl
 .rw [h.m2 hm, ZB h.vlt]
theorem Qas {P M : Int} {mf : List Int} {Q : Int -> Prop} (h : Q (ck P M mf)) : Jf0 P M mf Q := by
 refine ⟨fun h1 => ?_, fun h1 => Jss (by omega) fun b hb => ⟨fun hb0 => ?_, fun hb1 => ?_⟩⟩
 .rw [YW] at h
  .exact h
  .rintro ⟨p, m, v, hV⟩; have e1 := QM (p := p) (by have := hV.pr.two; omega) hV.m0; have := hV.q; have := hV.eP; rw [show p ^ (0 + 1) = p from Nat.pow_one p] at e1; omega
 .rw [YW] at h
  .exact h
  .rintro ⟨p, m, v, hV⟩; have := hV.pr.two; have : b = true := hb.2 ⟨by rw [hV.eP]; omega, by rw [hV.eP]; exact hV.pr⟩; rw [this] at hb0; exact absurd hb0 (by decide)
 .have hbt : b = true := by cases b <;> first | rfl | exact absurd hb1 (by decide)
  obtain ⟨hP2, hPr⟩ := hb.1 hbt; obtain ⟨p, rfl⟩ := Int.eq_ofNat_of_zero_le (show 0 <= P by omega); rw [Int.toNat_natCast] at hPr; refine ⟨fun h2 => ?_, fun h2 => Jix (by omega) (by omega) fun r hr1 hr2 => ⟨fun h3 => ?_, fun h3 => ?_⟩⟩
  .rw [YW] at h
   .exact h
   .rintro ⟨p', m, v, hV⟩; have := hV.m0; have := hV.eM; omega
  .rw [YW] at h
   .exact h
   .rintro ⟨p', m, v, hV⟩; have e1 := hV.eM; have e2 := hV.eP; have e3 := hV.q; have : p = p' := by omega
    subst this; rw [e1, Int.toNat_natCast] at hr1; have := hr1 e3; omega
  .obtain ⟨m, rfl⟩ := Int.eq_ofNat_of_zero_le (show 0 <= M by omega); rw [Int.toNat_natCast] at hr1 hr2; have hq : p ^ m <= 256 := by
    rcases Nat.lt_or_ge 256 (p ^ m) with hc | hc
    .exact absurd (hr2 hc) h3
    .exact hc
   refine ⟨fun h4 => Jw8 ?_, fun h4 => ⟨fun h5 => ?_, fun h5 => ?_⟩⟩
   .have hm1 : m = 1 := by omega
    subst hm1; by_cases hl : mf = []
    .subst hl; rw [Jil ⟨_, _, _, Jd2 hPr (by omega)⟩] at h
     simpa using h
    .rw [YW] at h
     .simpa [hl] using h
     .rintro ⟨p', m, v, hV⟩; exact hl (hV.m1 (by have := hV.eM; omega)).1
   .rw [YW] at h
    .exact h
    .rintro ⟨p', m', v, hV⟩; have e1 := hV.eM; have := (hV.cn (by omega)).1; omega
   .have hlen : mf.length = m := by omega
    have hm8 : mf.length <= 1000000000 := by
     have := Nat.lt_two_pow_self (n := m); have e1 : 2 ^ m <= p ^ m := Nat.pow_le_pow_left (by omega) m; omega
    refine Jch (f := fun x => if x < 0 then true else decide ((p : Int) <= x)) hm8 (fun x R hR => ⟨fun hx => by simpa [hx] using hR, fun hx => by simpa [hx] using hR⟩) ⟨fun hb6 => ?_, fun hb6 => ?_⟩
    .rw [YW] at h
     .exact h
     .rintro ⟨p', m', v, hV⟩; have e1 := hV.eM; have e2 := hV.eP; have e3 : p = p' := by omega
      have e4 : m = m' := by omega
      subst e3; subst e4; obtain ⟨i, hi, hf⟩ := Jbr.1 hb6; have hcn := (hV.cn (by omega)).2.1 i (by omega); rw [if_neg (by omega)] at hf; have := of_decide_eq_true hf; omega
    .have hcn : Cn p m (vo mf) := fun i hi => by
      have h6 : ¬ mf.any (fun x => if x < 0 then true else decide ((p : Int) <= x)) = true := by rw [hb6]; decide
      rw [Jbr] at h6; by_cases hx : vo mf i < 0
      .exact absurd ⟨i, by omega, by rw [if_pos hx]⟩ h6
      .by_cases hx2 : (p : Int) <= vo mf i
       .exact absurd ⟨i, by omega, by rw [if_neg hx, decide_eq_true hx2]⟩ h6
       .omega
     have hcl := Jrs (by omega) hlen hcn; refine Qar (by omega) (by omega) hlen hq hcn fun b2 hb2 => Jw8 ?_; by_cases hI : Irr p m (vo mf)
     .rw [hb2.2 hI, if_pos rfl]; rw [Jil ⟨p, m, nm p m (vo mf), rfl, rfl, hPr, by omega, hq, hcl.1, fun e => by omega, fun _ => hcl.2.1, by rw [<- hcl.2.2]; exact hI⟩] at h; exact h
     .rw [if_neg (fun e => hI (hb2.1 e))]; rw [YW] at h
      .exact h
      .rintro ⟨p', m', v, hV⟩; have e1 := hV.eM; have e2 := hV.eP; have e3 : p = p' := by omega
       have e4 : m = m' := by omega
       subst e3; subst e4; exact hI (hV.cn (by omega)).2.2
theorem Jw6 {P M : Int} {mf : List Int} {Q : Int -> Prop} (h : Q (ck P M mf)) : Jdt P M mf Q := by
 refine Jf7 ⟨fun h0 => ?_, fun h0 => ?_⟩
 .rw [YW] at h
  .exact h
  .rintro ⟨p, m, v, hV⟩; have h1 := hV.pr.two; have h2 := hV.m0; have h3 := hV.q; rw [hV.eP, hV.eM, Jhs, if_pos ⟨by omega, by omega, by simpa using h3⟩] at h0; have h4 : 0 < p ^ m := Nat.pow_pos (by omega); simp only [Int.toNat_natCast] at h0; omega
 .unfold Jhs at h0; by_cases hc : 2 <= P /\ 1 <= M /\ P.toNat ^ M.toNat <= 256
  .obtain ⟨h1, h2, hq⟩ := hc; obtain ⟨p, rfl⟩ := Int.eq_ofNat_of_zero_le (show 0 <= P by omega); obtain ⟨m, rfl⟩ := Int.eq_ofNat_of_zero_le (show 0 <= M by omega); simp only [Int.toNat_natCast] at hq; have hp256 : p <= 256 := by
    have := QM (p := p) (by omega) (show 1 <= m by omega); rw [Nat.pow_one] at this; omega
   refine Jw3 (by omega) hp256 fun b hb => ⟨fun hb0 => ?_, fun hb1 => ?_⟩
   .rw [YW] at h
    .exact h
    .rintro ⟨p', m', v, hV⟩; have e2 := hV.eP; have e3 : p = p' := by omega
     subst e3; rw [hb.2 hV.pr] at hb0; exact absurd hb0 (by decide)
   .have hbt : b = true := by cases b <;> first | rfl | exact absurd hb1 (by decide)
    have hPr := hb.1 hbt; refine ⟨fun h4 => ⟨fun h5 => ?_, fun h5 => ?_⟩, fun h4 => ⟨fun h5 => ?_, fun h5 => ?_⟩⟩
    .rw [YW] at h
     .exact h
     .rintro ⟨p', m', v, hV⟩; have e1 := hV.eM; have := (hV.m1 (by omega)).1; rw [this] at h5; exact h5 rfl
    .have hm1 : m = 1 := by omega
     subst hm1; have hl : mf = [] := List.length_eq_zero_iff.1 (by omega); subst hl; rw [Jil ⟨_, _, _, Jd2 hPr hp256⟩] at h; exact h
    .rw [YW] at h
     .exact h
     .rintro ⟨p', m', v, hV⟩; have e1 := hV.eM; have := (hV.cn (by omega)).1; omega
    .have hlen : mf.length = m := by omega
     refine ⟨fun z => ∃ k : Nat, z = k /\ k <= m /\ Cn p k (vo mf), fun z => (m - z).toNat, ⟨0, rfl, Nat.zero_le _, fun i hi => by omega⟩, ?_⟩; rintro _ ⟨k, rfl, hk, hcn⟩; dsimp only; rw [JW]; have hno : ¬ (0 <= vo mf k /\ vo mf k < p) -> k < m -> ¬ YY p m mf := by
      rintro hbad hkm ⟨p', m', v, hV⟩; have e1 := hV.eM; have e2 := hV.eP; have e3 : p = p' := by omega
      have e4 : m = m' := by omega
      subst e3; subst e4; exact hbad ((hV.cn (by omega)).2.1 k hkm)
     have hm8 : m <= 1000000000 := by
      have := Nat.lt_two_pow_self (n := m); have e1 : 2 ^ m <= p ^ m := Nat.pow_le_pow_left (by omega) m; omega
     refine ⟨fun hlt => ⟨fun hneg => ⟨⟨by omega, by omega⟩, ?_⟩, fun hpos => ⟨⟨by omega, by omega⟩, ⟨by omega, by omega⟩, fun hbig => ?_, fun hsm => ⟨JB (by omega) (by omega), ⟨k + 1, by push_cast; rfl, by omega, fun i hi => ?_⟩, by omega⟩⟩⟩, fun hge => ?_⟩
     .rw [YW (hno (by omega) (by omega))] at h; exact h
     .rw [YW (hno (by omega) (by omega))] at h; exact h
     .by_cases hik : i = k
      .subst hik; omega
      .exact hcn i (by omega)
     .have hkm : k = m := by omega
      subst hkm; have hcl := Jrs (by omega) hlen hcn; refine v_rirr (by omega) hp256 hlen hq hcn fun b2 hb2 => ⟨fun hb3 => ?_, fun hb3 => ?_⟩
      .rw [YW] at h
       .exact h
       .rintro ⟨p', m', v, hV⟩; have e1 := hV.eM; have e2 := hV.eP; have e3 : p = p' := by omega
        have e4 : k = m' := by omega
        subst e3; subst e4; rw [hb2.2 (hV.cn (by omega)).2.2] at hb3; exact absurd hb3 (by decide)
      .have hbt2 : b2 = true := by cases b2 <;> first | rfl | exact absurd hb3 (by decide)
       rw [Jil ⟨p, k, nm p k (vo mf), rfl, rfl, hPr, by omega, hq, hcl.1, fun e => by omega, fun _ => hcl.2.1, by rw [<- hcl.2.2]; exact hb2.1 hbt2⟩] at h; exact h
  .rw [if_neg hc] at h0; exact absurd rfl h0
end Go.Proofs.YtngdhnijkgjhcaaGreat
