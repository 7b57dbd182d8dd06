/- What only this law leans on. -/
import Derived.Test.YtiboieijhehjnaaMatrixKernelG9
set_option linter.unusedVariables false
namespace Go.Proofs.Ytiboieijhehjnaa
open Go.RowKit
theorem Try.nm31 : (Try.f31.name == "runtime.NumGoroutine") = false := by kernel_rfl
theorem Try.nm40 : (Try.f40.name == "runtime.NumGoroutine") = false := by kernel_rfl
end Go.Proofs.Ytiboieijhehjnaa
namespace Go.Proofs.Ytiboieijhehjnaa
open Go.RowKit
abbrev XF12 := Try.func12
abbrev Jqd := Try.func31
abbrev XF40 := Try.func40
abbrev XN31 := Try.nm31
abbrev XN40 := Try.nm40
end Go.Proofs.Ytiboieijhehjnaa
set_option linter.unusedSimpArgs false
set_option linter.unusedVariables false
set_option maxRecDepth 4000
set_option maxHeartbeats 4000000
namespace Go.Proofs.Ytiboieijhehjnaa
open Go.RowKit
def Yo (Pf : Int) (Mf : Int) (mf : List Int) (Cm : Int) (m : List (List Int)) (Q : Int × List (List Int) × Int -> Prop) : Prop :=
  YU Pf Mf mf ([(Cm, m)] : List Mt) (fun q => match q with | (none, r22) => (r22 ≠ (0 : Int)) -> (Q ((0 : Int), ([] : List (List Int)), r22)) | (some F23, _) => (0 <= Cm /\ Cm * 24 <= 281474976710656 /\ Cm <= 281474976710656) /\ (∃ (I65 : List (List Int) -> Int -> Prop) (μ66 : List (List Int) -> Int -> Nat), I65 (List.replicate Cm.toNat ([] : List Int)) (0 : Int) /\ ∀ (x61 : List (List Int)) (z63 : Int), (I65 x61 z63 -> (((z63 < ((Cm.toNat : Nat) : Int)) -> ((0 <= (m.length : Int) /\ (m.length : Int) * 8 <= 281474976710656 /\ (m.length : Int) <= 281474976710656) /\ ((0 <= z63 /\ z63 < (Cm.toNat : Nat)) /\ (∃ (I94 : List (List Int) -> Int -> Prop) (μ95 : List (List Int) -> Int -> Nat), I94 (sll x61 z63 (List.replicate (m.length : Int).toNat (0 : Int))) (0 : Int) /\ ∀ (x91 : List (List Int)) (z93 : Int), (I94 x91 z93 -> (((z93 < (m.length : Int)) -> ((0 <= z93 /\ z93 < (m.length : Nat)) /\ ((0 <= z63 /\ z63 < (Cm.toNat : Nat)) /\ ((0 <= z63 /\ z63 < ((gl m z93).length : Nat)) /\ ((0 <= z93 /\ z93 < ((gl x91 z63).length : Nat)) /\ ((I64 (z93 + (1 : Int))) /\ (I94 (sll x91 z63 (si (gl x91 z63) z93 (gi (gl m z93) z63))) (z93 + (1 : Int)) /\ μ95 (sll x91 z63 (si (gl x91 z63) z93 (gi (gl m z93) z63))) (z93 + (1 : Int)) < μ95 x91 z93))))))) /\ (¬ (z93 < (m.length : Int)) -> ((I64 (z63 + (1 : Int))) /\ (I65 x91 (z63 + (1 : Int)) /\ μ66 x91 (z63 + (1 : Int)) < μ66 x61 z63))))))))) /\ (¬ (z63 < ((Cm.toNat : Nat) : Int)) -> (Q ((m.length : Int), x61, (0 : Int))))))))
theorem Jaa {w : World} {Q : Int × List (List Int) × Int -> Prop} {Pf : Int} {Mf : Int} {mf : List Int} {Cm : Int} {m : List (List Int)} {Bf : Nat} {Af : Option Addr} {nf kf : Nat} (hf : Rd Bf w 1 Af nf kf (is mf)) {Am : Option Addr} {nm km : Nat} (hm : Rl w Am nm km m) (hv : Yo Pf Mf mf Cm m Q) :
    Calls Try.prog 40 #[.agg #[.int .i64 Pf, .int .i64 Mf, .slice Af nf kf], .agg #[.int .i64 Cm, .slice Am nm km]] w fun e w' => ∃ v Qr, e = .returned v /\ w.grownBy w' none /\ Rows w.heap.size none w' Qr /\ News w.heap.size Qr /\ ∃ (c0 : Int) (r0 : List (List Int)) (r1 : Int) (A0 : Option Addr) (k0 : Nat) (hs0 : Hs), v = .tuple #[.agg #[.int .i64 c0, .slice A0 r0.length k0], .int .i64 r1] /\ Qr = [mx 22 3 A0 r0.length k0 hs0 r0] /\ Q (c0, r0, r1) := by
  have hnf := hf.ilen
  subst hnf
  have hnm := hm.len
  subst hnm
  obtain ⟨hsm, hHm⟩ := hm.heads
  refine Jp <| QJ (vs := [.agg #[.int .i64 Pf, .int .i64 Mf, .slice Af mf.length kf], .agg #[.int .i64 Cm, .slice Am m.length km]]) [.cell 4 27, .tmp 5] XF40 rfl rfl rfl rfl ?_
  have hS := Js w
  unfold Yo at hv
  refine Jg 2 <| JF (z := 3) (cs := [.int .i64 Pf, .int .i64 Mf, .slice Af mf.length kf]) hS rfl rfl rfl rfl ?_
  intro g11 w12 hS
  refine JF (z := 2) (cs := [.int .i64 Cm, .slice Am m.length km]) hS rfl rfl rfl rfl ?_
  intro g13 w14 hS
  refine SL.alloc (cs := [.int .i64 0, .slice none 0 0]) hS Jv rfl rfl ?_
  intro g15 w16 hS
  refine Jc 2 <| Jg 3 <| Jk (cs := [.int .i64 Pf, .int .i64 Mf, .slice Af mf.length kf]) JT JY rfl rfl (Jb (hS.own (i := 2) rfl)) rfl <| Jk (cs := [.int .i64 Cm, .slice Am m.length km]) Jv JN rfl rfl (Jb (hS.own (i := 1) rfl)) rfl <| ZC (cells := [.int .i64 Cm, .slice Am m.length km]) hS Je4 Jv rfl ⟨_, rfl, rfl⟩ rfl rfl ?_
  intro A17 w18 hS
  refine SL.call hS (Zu (hS.ro hf) (⟨_, _, (hS.rd (i := 0) rfl), ⟨rfl, ⟨_, _, (sm0 (Rl.len (RlH.rl (RlH.ext hHm hS.ext))).symm), (Jdw (RlH.rl (RlH.ext hHm hS.ext)))⟩, trivial⟩⟩ : Rm _ _ _ _ ([(Cm, m)] : List Mt)) hv) Jjo rfl Jla rfl rfl ?_
  rintro _ _ w21 ⟨o, r22, hv, hK⟩ hGw21 hS
  cases o with
  | none =>
   obtain ⟨hn29, rfl, rfl⟩ := hK
   have hv := hv hn29
   have hS := hS.n0
   refine Jc 6 <| Jg 3 <| QY rfl rfl rfl ?_; rw [decide_eq_true hn29]
   refine Ja <| JV rfl <| Jg 2 <| J2 (cells := #[.int .i64 0, .slice none 0 0]) Zg rfl rfl rfl <| Je rfl rfl <| Jw (cs := [.int .i64 0, .slice none 0 0]) 1 hS rfl Jv rfl rfl rfl rfl rfl ?_
   intro w30 hS
   refine Jc 2 <| W.ret ?_
   have hS := hS.mxNil 22 3
   have hm0 := hS.mxlen (i := 0) rfl
   have hS := hS.relenMx (i := 0) rfl hm0.symm
   change St _ _ _ _ [mx 22 3 none ((([] : List (List Int))).length) 0 (fun _ => (none, 0)) ([] : List (List Int)), .row 27 2 A17 1 1 [.int .i64 Cm, .slice Am m.length km], .row 27 2 (some ⟨g15, 0, none⟩) 1 1 [.int .i64 0, .slice none 0 0], .row 27 2 (some ⟨g13, 0, none⟩) 1 1 [.int .i64 Cm, .slice Am m.length km], .row 24 3 (some ⟨g11, 0, none⟩) 1 1 [.int .i64 Pf, .int .i64 Mf, .slice Af mf.length kf]] at hS
   repeat with_reducible first | refine blk.ret ?_ | refine exits.retI ?_
   refine endC.mk ⟨[.agg #[.int .i64 0, .slice none 0 0], .int .i64 r22], ⟨_, _, _, rfl, rfl, JO (cs := [.int .i64 0, .slice none 0 0]) Jv JN rfl (Jb (hS.own (i := 2) rfl)), ⟨_, _, rfl, rfl, rfl⟩⟩, ?_⟩
   exact ⟨_, hS.ext, (hS.pick [0] rfl).rows, Ji (hS.pick [0] rfl).rows rfl, ⟨(0 : Int), ([] : List (List Int)), r22, none, 0, (fun _ => (none, 0)), (by first | (rw [show (Value.slice none 0 0) = Value.slice none (([] : List (List Int))).length 0 from sm0 hm0.symm]; done) | (rw [show (Value.slice none 0 0) = Value.slice none (([] : List (List Int))).length 0 from sm0 hm0.symm]; rfl)), rfl, hv⟩⟩
  | some F23 =>
   obtain ⟨rfl, ad24, lo25, hi26, rfl, rfl⟩ := hK
   have hS := hS.n1
   refine Jc 6 <| Jg 5 <| Qv rfl <| Jn <| JB ?_
   obtain ⟨o40, hv⟩ := hv
   have hS0 := hS
   refine QA 8 (fun iA => [false, false, false, false, false, true, false, true].getD iA false) (fun iC => match iC with | 6 => some 5 | _ => none) (fun iP v_ => match iP with | 6 => .agg #[.int .i64 (m.length : Int), v_] | _ => v_) [⟨[], [3], true⟩, ⟨[0], [], false⟩, ⟨[1], [], true⟩, ⟨[], [3], true⟩, ⟨[3], [], false⟩, ⟨[4], [], false⟩, ⟨[2, 5], [], true⟩, ⟨[], [], false⟩] [[(3, .pointer (some ⟨g13, 0, none⟩))], [], [], [(3, .pointer (some ⟨g13, 0, none⟩))], [], [], [], []] (fun iQ => [fun v _ => v = .pointer (some ((⟨g13, 0, none⟩ : Addr).add 1)), fun v _ => v = .slice Am m.length km, fun v _ => v = .int .i64 (m.length : Int), fun v _ => v = .pointer (some ⟨g13, 0, none⟩), fun v _ => v = .int .i64 Cm, fun v wQ => ∃ A38_5 k41_5, v = .slice A38_5 Cm.toNat k41_5 /\ Rows w21.heap.size none wQ [mx 22 3 A38_5 Cm.toNat k41_5 (fun _ => (none, 0)) (List.replicate Cm.toNat ([] : List Int))], fun v wQ => ∃ A38_5_6 k41_5_6, v = .agg #[.int .i64 (m.length : Int), .slice A38_5_6 Cm.toNat k41_5_6] /\ Rows w21.heap.size none wQ [mx 22 3 A38_5_6 Cm.toNat k41_5_6 (fun _ => (none, 0)) (List.replicate Cm.toNat ([] : List Int))], fun v wQ => ∃ g47_7, v = .pointer (some ⟨g47_7, 0, none⟩) /\ Own 0 wQ 27 2 (some ⟨g47_7, 0, none⟩) 1 1 [.int .i64 0, .slice none 0 0] /\ (∀ g, bl (some ⟨g47_7, 0, none⟩) = some g -> w21.heap.size <= g)].getD iQ (fun _ _ => True)) (fun iD => [vbD, vbD, vbD, vbD, vbD, rch, vbD, vbD].getD iD vbD) Try.mixed (by kernel_rfl) ?_ ?_ (by kernel_rfl) ?_ ?_
   . refine J4 _ ?_
     intro VQ hVQ vQ wQ1 wQ2 hQ1 hQ2
     simp only [List.mem_cons, List.not_mem_nil, or_false] at hVQ
     rcases hVQ with rfl | rfl | rfl | rfl | rfl | rfl | rfl | rfl
     any_goals exact hQ1
     . obtain ⟨A38_5, k41_5, hQe, hR42_5⟩ := hQ1
       exact ⟨A38_5, k41_5, hQe, hR42_5.ext hQ2⟩
     . obtain ⟨A38_5_6, k41_5_6, hQe, hR42_5_6⟩ := hQ1
       exact ⟨A38_5_6, k41_5_6, hQe, hR42_5_6.ext hQ2⟩
     obtain ⟨g47_7, hQe, hO49_7, hN50_7⟩ := hQ1
     exact ⟨g47_7, hQe, hO49_7.ext hQ2, hN50_7⟩
   . intro jD vD w1D w2D hvD hgD gD hD_
     rcases jD with _ | _ | _ | _ | _ | _ | _ | _ | jD
     any_goals exact hD_
     obtain ⟨A38_5, k41_5, rfl, hR42_5⟩ := hvD
     exact YN hR42_5 hgD hD_
   . refine ⟨⟨rfl, ⟨rfl, trivial⟩, ?_⟩, ⟨rfl, trivial, ?_⟩, ⟨rfl, trivial, ?_⟩, ⟨rfl, ⟨rfl, trivial⟩, ?_⟩, ⟨rfl, trivial, ?_⟩, ⟨rfl, trivial, ?_⟩, ⟨rfl, trivial, ?_⟩, ⟨rfl, trivial, ?_⟩, trivial⟩
     . intro w32 hE
       intro RR
       refine Jh (off := 1) JI rfl rfl ?_
       exact Ja ⟨_, rfl, dnq rfl rfl rfl rfl⟩
     . intro w33 hE
       have hE := hE rfl
       have hS := hS.grow hE
       rintro _ rfl
       intro RR
       refine Jd Jt rfl rfl (Jb (hS.own (i := 3) rfl) 1 _ rfl) rfl ?_
       exact Ja ⟨_, rfl, dnq (Jj _) rfl rfl rfl⟩
     . intro w34 hE
       rintro _ rfl
       intro RR
       refine WL.len Jt rfl rfl ?_
       exact Ja ⟨_, rfl, dnq rfl rfl rfl rfl⟩
     . intro w35 hE
       intro RR
       refine Jh (off := 0) J1 rfl rfl ?_
       exact Ja ⟨_, rfl, dnq rfl rfl rfl rfl⟩
     . intro w36 hE
       have hE := hE rfl
       have hS := hS.grow hE
       rintro _ rfl
       intro RR
       refine Jd XU3 rfl rfl (Jb (hS.own (i := 3) rfl) 0 _ rfl) rfl ?_
       exact Ja ⟨_, rfl, dnq (Jj _) rfl rfl rfl⟩
     . intro w37 hE
       have hE := hE rfl
       have hS := hS.grow hE
       rintro _ rfl
       intro RR
       refine Zo (J := Cm) Jt Jy rfl rfl o40 (Jaf _) rfl ?_
       intro A38 k41 w39 hO43 hN44 hGw39
       have hR42w := Jfi (eI := 3) hO43 hN44
       have hR42 := hR42w.mxbase hE.size
       exact Ja ⟨_, rfl, hGw39, ⟨A38, k41, rfl, hR42⟩, (fun _ => fun g hg => Zt hR42w hg), (fun j h => by cases h)⟩
     . intro w45 hE
       rintro _ rfl
       rintro _ ⟨A38_5, k41_5, rfl, hR42_5⟩
       intro RR
       refine J2 (cells := #[.int .i64 (m.length : Int), .slice A38_5 Cm.toNat k41_5]) Zg rfl rfl rfl ?_
       exact Ja ⟨_, rfl, rfl, ⟨A38_5, k41_5, rfl, hR42_5⟩, (fun h => absurd h (by decide)), (fun j h => by cases h; exact ⟨_, rfl, rfl⟩)⟩
     intro w46 hE
     have hE := hE rfl
     have hS := hS.grow hE
     intro RR
     refine WL.alloc Jv rfl ?_
     intro g47 w48 hg47 hO49 hGw48
     have hN50 : ∀ g2, bl (some ⟨g47, 0, none⟩) = some g2 -> _ <= g2 := fun g2 e => by cases e; rw [hg47]; exact hE.size
     have hO49 := Own.low (b' := 0) hO49 (Nat.zero_le _)
     exact Ja ⟨_, rfl, hGw48, ⟨g47, rfl, hO49, hN50⟩, (fun _ => fun g2 hg2 => by cases hg2; exact ⟨Nat.le_of_eq hg47.symm, (hO49.bl_ge _ rfl).2⟩), (fun j h => by cases h)⟩
   intro vals w51 hT hVs hAp hCp
   have hS := hS.grow hT
   have hv0 : vals 0 = _ := hVs 0 (by decide)
   have hv1 : vals 1 = _ := hVs 1 (by decide)
   have hv2 : vals 2 = _ := hVs 2 (by decide)
   have hv3 : vals 3 = _ := hVs 3 (by decide)
   have hv4 : vals 4 = _ := hVs 4 (by decide)
   obtain ⟨A38_5, k41_5, hv5, hR42_5⟩ := hVs 5 (by decide)
   have hv6 : vals 6 = .agg #[.int .i64 (m.length : Int), .slice A38_5 Cm.toNat k41_5] := (hCp 6 5 (by decide) rfl).trans (congrArg (fun v_ : Value => (.agg #[.int .i64 (m.length : Int), v_] : Value)) hv5)
   obtain ⟨g47_7, hv7, hO49_7, hN50_7⟩ := hVs 7 (by decide)
   have hS := YR [] hS0 hS hR42_5 (fun s hs => by cases hs)
   have hap7_5 : ∀ g, (.row 27 2 (some ⟨g47_7, 0, none⟩) 1 1 [.int .i64 0, .slice none 0 0] : Rw).at_ g -> ¬ (mx 22 3 A38_5 Cm.toNat k41_5 (fun _ => (none, 0)) (List.replicate Cm.toNat ([] : List Int)) : Rw).at_ g := by have h_ := hAp 7 5 (by decide) (by decide) (by decide) rfl rfl; rw [hv7, hv5] at h_; exact fun g h1 h2 => h_ g h1 (Jbr hR42_5 h2)
   have hS := Qe [mx 22 3 A38_5 Cm.toNat k41_5 (fun _ => (none, 0)) (List.replicate Cm.toNat ([] : List Int))] hS0 hS hO49_7 hN50_7 (by intro s hs g hg; simp only [List.mem_cons, List.not_mem_nil, or_false] at hs; obtain rfl := hs; exact hap7_5 g hg)
   show WA _ _ _ _ _ _ _ _ ([(23, vals 0), (24, vals 1), (25, vals 2), (26, vals 3), (27, vals 4), (28, vals 5), (29, vals 6), (8, vals 7)] ++ _) _
   rw [hv0, hv1, hv2, hv3, hv4, hv5, hv6, hv7]
   refine Jf 8 (by decide +kernel) rfl <| Jw (cs := [.int .i64 (m.length : Int), .slice A38_5 Cm.toNat k41_5]) 0 hS rfl Jv rfl rfl rfl rfl rfl ?_
   intro w54 hS
   refine Ja <| Jr (by decide +kernel) <| Jg 3 <| Jh (off := 1) JI rfl rfl <| Jd Jt rfl rfl (Jb (hS.own (i := 0) rfl) 1 _ rfl) rfl <| WL.len Jt rfl rfl <| Jc 2 <| W.block ?_
   obtain ⟨I65, μ66, hv, hk118⟩ := hv
   refine JE (σ := List (List Int) × Int × Hs) (fun q w1 => match q with | (x61, z63, hs62) => I65 x61 z63 /\ St TT w none w1 [.row 27 2 (some ⟨g47_7, 0, none⟩) 1 1 [.int .i64 (m.length : Int), .slice A38_5 Cm.toNat k41_5], mx 22 3 A38_5 Cm.toNat k41_5 hs62 x61, .ch lo25 hi26 (fun wz => GFX lo25 hi26 wz ad24 F23), .row 27 2 A17 1 1 [.int .i64 Cm, .slice Am m.length km], .row 27 2 (some ⟨g15, 0, none⟩) 1 1 [.int .i64 0, .slice none 0 0], .row 27 2 (some ⟨g13, 0, none⟩) 1 1 [.int .i64 Cm, .slice Am m.length km], .row 24 3 (some ⟨g11, 0, none⟩) 1 1 [.int .i64 Pf, .int .i64 Mf, .slice Af mf.length kf]]) (fun q => match q with | (x61, z63, hs62) => [(3, .pointer (some ⟨g13, 0, none⟩)), (4, .pointer (some ⟨g15, 0, none⟩)), (5, .int .i64 0), (8, .pointer (some ⟨g47_7, 0, none⟩)), (32, .int .i64 ((Cm.toNat : Nat) : Int)), (33, .int .i64 z63)]) (fun q => match q with | (x61, z63, hs62) => μ66 x61 z63) (List.replicate Cm.toNat ([] : List Int), (0 : Int), (fun _ => (none, 0))) ⟨hv, hS⟩ ⟨rfl, rfl, rfl, rfl, rfl, rfl, trivial⟩ ?_
   rintro ⟨x61, z63, hs62⟩ w67 ⟨hv, hS⟩
   have hv := hk118 x61 z63 hv
   refine Jg 5 <| Jm rfl (fun c68 => ?_) (fun c68 => ?_)
   .have hv := hv.1 (of_decide_eq_true c68)
    refine Jn <| JB <| W.block <| Jg 6 ?_
    obtain ⟨o75, hv⟩ := hv
    have hS0 := hS
    refine QA 6 (fun iA => [false, false, false, false, false, true].getD iA false) (fun _ => none) (fun _ v => v) [⟨[], [8], true⟩, ⟨[0], [], false⟩, ⟨[], [9], true⟩, ⟨[], [8], true⟩, ⟨[3], [], false⟩, ⟨[4], [], false⟩] [[(8, .pointer (some ⟨g47_7, 0, none⟩))], [], [(9, .int .i64 z63)], [(8, .pointer (some ⟨g47_7, 0, none⟩))], [], []] (fun iQ => [fun v _ => v = .pointer (some ((⟨g47_7, 0, none⟩ : Addr).add 1)), fun v _ => v = .slice A38_5 Cm.toNat k41_5, fun v _ => v = .int .i64 z63, fun v _ => v = .pointer (some ⟨g47_7, 0, none⟩), fun v _ => v = .int .i64 (m.length : Int), fun v wQ => ∃ A76_5 k80_5, v = .slice A76_5 ((m.length : Int).toNat) k80_5 /\ Own 0 wQ 3 1 A76_5 ((m.length : Int).toNat) k80_5 (is (List.replicate (m.length : Int).toNat (0 : Int))) /\ (∀ g, bl A76_5 = some g -> w67.heap.size <= g)].getD iQ (fun _ _ => True)) (fun _ => vbD) Try.mixed (by kernel_rfl) ?_ (fun _ _ _ _ _ _ _ h => h) (by kernel_rfl) ?_ ?_
    . refine J4 _ ?_
      intro VQ hVQ vQ wQ1 wQ2 hQ1 hQ2
      simp only [List.mem_cons, List.not_mem_nil, or_false] at hVQ
      rcases hVQ with rfl | rfl | rfl | rfl | rfl | rfl
      any_goals exact hQ1
      obtain ⟨A76_5, k80_5, hQe, hO78_5, hN79_5⟩ := hQ1
      exact ⟨A76_5, k80_5, hQe, hO78_5.ext hQ2, hN79_5⟩
    . refine ⟨⟨rfl, ⟨rfl, trivial⟩, ?_⟩, ⟨rfl, trivial, ?_⟩, ⟨rfl, ⟨rfl, trivial⟩, ?_⟩, ⟨rfl, ⟨rfl, trivial⟩, ?_⟩, ⟨rfl, trivial, ?_⟩, ⟨rfl, trivial, ?_⟩, trivial⟩
      . intro w69 hE
        intro RR
        refine Jh (off := 1) JI rfl rfl ?_
        exact Ja ⟨_, rfl, dnq rfl rfl rfl rfl⟩
      . intro w70 hE
        have hE := hE rfl
        have hS := hS.grow hE
        rintro _ rfl
        intro RR
        refine Jd Jt rfl rfl (Jb (hS.own (i := 0) rfl) 1 _ rfl) rfl ?_
        exact Ja ⟨_, rfl, dnq (Jj _) rfl rfl rfl⟩
      . intro w71 hE
        intro RR
        refine Je rfl rfl ?_
        exact Ja ⟨_, rfl, dnq rfl rfl rfl rfl⟩
      . intro w72 hE
        intro RR
        refine Jh (off := 0) J1 rfl rfl ?_
        exact Ja ⟨_, rfl, dnq rfl rfl rfl rfl⟩
      . intro w73 hE
        have hE := hE rfl
        have hS := hS.grow hE
        rintro _ rfl
        intro RR
        refine Jd XU3 rfl rfl (Jb (hS.own (i := 0) rfl) 0 _ rfl) rfl ?_
        exact Ja ⟨_, rfl, dnq (Jj _) rfl rfl rfl⟩
      intro w74 hE
      have hE := hE rfl
      have hS := hS.grow hE
      rintro _ rfl
      intro RR
      refine Zo (J := (m.length : Int)) Jq XE3 rfl rfl o75 (QG _) rfl ?_
      intro A76 k80 w77 hO78 hN79g hGw77
      have hN79 : ∀ g, bl A76 = some g -> _ <= g := fun g hg => Nat.le_trans hE.size (hN79g g hg)
      exact Ja ⟨_, rfl, hGw77, ⟨A76, k80, rfl, hO78, hN79⟩, (fun _ => fun g hg => ⟨hN79g g hg, (hO78.bl_ge g hg).2⟩), (fun j h => by cases h)⟩
    intro vals w81 hT hVs hAp hCp
    have hS := hS.grow hT
    have hv0 : vals 0 = _ := hVs 0 (by decide)
    have hv1 : vals 1 = _ := hVs 1 (by decide)
    have hv2 : vals 2 = _ := hVs 2 (by decide)
    have hv3 : vals 3 = _ := hVs 3 (by decide)
    have hv4 : vals 4 = _ := hVs 4 (by decide)
    obtain ⟨A76_5, k80_5, hv5, hO78_5, hN79_5⟩ := hVs 5 (by decide)
    have hS := Qe [] hS0 hS hO78_5 hN79_5 (fun s hs => by cases hs)
    show WA _ _ _ _ _ _ _ _ ([(36, vals 0), (37, vals 1), (38, vals 2), (39, vals 3), (40, vals 4), (41, vals 5)] ++ _) _
    rw [hv0, hv1, hv2, hv3, hv4, hv5]
    refine Jf 6 (by decide +kernel) rfl ?_
    obtain ⟨o83, hv⟩ := hv
    refine JC 2 Jt Jy hS rfl rfl rfl o83 rfl <| Ja <| Jf 7 (by decide +kernel) rfl ?_
    have hS := hS.pick [0, 2, 1, 3, 4, 5, 6, 7] rfl
    refine Q9 hS Jy o83 (hS.rd (i := 0) rfl).ilen.symm rfl rfl ?_
    intro w84 hS
    refine Ja <| Jr (by decide +kernel) <| Jg 2 <| Jh (off := 1) JI rfl rfl <| Jd Jt rfl rfl (Jb (hS.own (i := 5) rfl) 1 _ rfl) rfl <| WL.len Jt rfl rfl <| Jc 2 <| W.block ?_
    obtain ⟨I94, μ95, hv, hk116⟩ := hv
    refine JE (σ := List (List Int) × Int × Hs) (fun q w1 => match q with | (x91, z93, hs92) => I94 x91 z93 /\ St TT w none w1 [mx 22 3 A38_5 Cm.toNat k41_5 hs92 x91, .row 27 2 (some ⟨g47_7, 0, none⟩) 1 1 [.int .i64 (m.length : Int), .slice A38_5 Cm.toNat k41_5], .ch lo25 hi26 (fun wz => GFX lo25 hi26 wz ad24 F23), .row 27 2 A17 1 1 [.int .i64 Cm, .slice Am m.length km], .row 27 2 (some ⟨g15, 0, none⟩) 1 1 [.int .i64 0, .slice none 0 0], .row 27 2 (some ⟨g13, 0, none⟩) 1 1 [.int .i64 Cm, .slice Am m.length km], .row 24 3 (some ⟨g11, 0, none⟩) 1 1 [.int .i64 Pf, .int .i64 Mf, .slice Af mf.length kf]]) (fun q => match q with | (x91, z93, hs92) => [(3, .pointer (some ⟨g13, 0, none⟩)), (4, .pointer (some ⟨g15, 0, none⟩)), (5, .int .i64 0), (8, .pointer (some ⟨g47_7, 0, none⟩)), (9, .int .i64 z63), (32, .int .i64 ((Cm.toNat : Nat) : Int)), (33, .int .i64 z63), (34, .bool (decide (z63 < ((Cm.toNat : Nat) : Int)))), (44, .slice Am m.length km), (45, .int .i64 (m.length : Int)), (46, .int .i64 z93)]) (fun q => match q with | (x91, z93, hs92) => μ95 x91 z93) (sll x61 z63 (List.replicate (m.length : Int).toNat (0 : Int)), (0 : Int), (up hs62 z63.toNat (A76_5, k80_5))) ⟨hv, hS⟩ ⟨rfl, rfl, rfl, rfl, rfl, rfl, rfl, rfl, rfl, rfl, rfl, trivial⟩ ?_
    rintro ⟨x91, z93, hs92⟩ w96 ⟨hv, hS⟩
    have hv := hk116 x91 z93 hv
    refine Jg 5 <| Jm rfl (fun c97 => ?_) (fun c97 => ?_)
    .have hv := hv.1 (of_decide_eq_true c97)
     refine Jn <| JB <| W.block <| Jg 3 ?_
     obtain ⟨o98, hv⟩ := hv
     refine Qf Jt Jy hHm rfl rfl o98 rfl <| Jd Jq rfl rfl (hS.cell (RlH.cell hHm o98)) rfl <| Jc 3 ?_
     obtain ⟨o103, hv⟩ := hv
     obtain ⟨o109, hv⟩ := hv
     refine JU 10 [⟨[], [8], true⟩, ⟨[0], [], false⟩, ⟨[], [9], true⟩, ⟨[1, 2], [], true⟩, ⟨[3], [], false⟩, ⟨[], [10], true⟩, ⟨[], [11], true⟩, ⟨[], [9], true⟩, ⟨[6, 7], [], true⟩, ⟨[8], [], false⟩] [[(8, .pointer (some ⟨g47_7, 0, none⟩))], [], [(9, .int .i64 z63)], [], [], [(10, .int .i64 z93)], [(11, .slice ((hsm z93.toNat).1) ((gl m z93).length) ((hsm z93.toNat).2))], [(9, .int .i64 z63)], [], []] [(51, .pointer (some ((⟨g47_7, 0, none⟩ : Addr).add 1))), (52, .slice A38_5 Cm.toNat k41_5), (53, .int .i64 z63), (54, .pointer (some ((JM A38_5).add z63.toNat))), (55, .slice ((hs92 z63.toNat).1) ((gl x91 z63).length) ((hs92 z63.toNat).2)), (56, .int .i64 z93), (57, .slice ((hsm z93.toNat).1) ((gl m z93).length) ((hsm z93.toNat).2)), (58, .int .i64 z63), (59, .pointer (some ((JM ((hsm z93.toNat).1)).add z63.toNat))), (60, .int .i64 (gi (gl m z93) z63))] Try.mixed (by kernel_rfl) rfl rfl ?_ ?_
     . refine ⟨⟨rfl, ⟨rfl, trivial⟩, fun _ _ _ => Jh (off := 1) JI rfl rfl <| Ja ⟨rfl, rfl⟩⟩, ⟨rfl, trivial, fun _ hE _ => have hS := hS.grow (hE rfl); Jd Jt rfl rfl (Jb (hS.own (i := 1) rfl) 1 _ rfl) rfl <| Ja ⟨rfl, Jj _⟩⟩, ⟨rfl, ⟨rfl, trivial⟩, fun _ _ _ => Je rfl rfl <| Ja ⟨rfl, rfl⟩⟩, ⟨rfl, trivial, fun _ _ _ => JC 0 Jt Jy hS rfl rfl rfl o103 rfl <| Ja ⟨rfl, rfl⟩⟩, ⟨rfl, trivial, fun _ hE _ => have hS := hS.grow (hE rfl); Jd Jq rfl rfl (hS.mxcell (i := 0) rfl o103) rfl <| Ja ⟨rfl, Jj _⟩⟩, ⟨rfl, ⟨rfl, trivial⟩, fun _ _ _ => Je rfl rfl <| Ja ⟨rfl, rfl⟩⟩, ⟨rfl, ⟨rfl, trivial⟩, fun _ _ _ => Je rfl rfl <| Ja ⟨rfl, rfl⟩⟩, ⟨rfl, ⟨rfl, trivial⟩, fun _ _ _ => Je rfl rfl <| Ja ⟨rfl, rfl⟩⟩, ⟨rfl, trivial, fun _ _ _ => Jl Jq XE3 (hS.ro (Qw hHm o98)) rfl rfl o109 rfl <| Ja ⟨rfl, rfl⟩⟩, ⟨rfl, trivial, fun _ hE _ => have hS := hS.grow (hE rfl); Jd XU3 rfl rfl (JH (hS.ro (Qw hHm o98)) o109) rfl <| Ja ⟨rfl, Jj _⟩⟩, trivial⟩
     intro w111 hT
     have hS := hS.grow hT
     refine Jf 10 (by decide +kernel) rfl ?_
     obtain ⟨o112, hv⟩ := hv
     refine Jl Jq XE3 (hS.mxrd (i := 0) rfl o103) rfl rfl o112 rfl <| Ja <| Jf 11 (by decide +kernel) rfl <| Jhk 0 hS rfl XE3 o103 o112 rfl rfl ?_
     intro w113 hS
     refine Ja <| Jr (by decide +kernel) <| JG ?_
     obtain ⟨o114, hv⟩ := hv
     refine WL.add (r := (z93 + (1 : Int))) rfl rfl (wr o114) rfl <| Jc 2 ?_
     exact ⟨(sll x91 z63 (si (gl x91 z63) z93 (gi (gl m z93) z63)), (z93 + (1 : Int)), hs92), ⟨rfl, rfl, rfl, rfl, rfl, rfl, rfl, rfl, rfl, rfl, rfl, trivial⟩, hv.2, rfl, hv.1, hS⟩
    have hv := hv.2 (of_decide_eq_false c97)
    refine JA <| JG ?_
    obtain ⟨o115, hv⟩ := hv
    refine WL.add (r := (z63 + (1 : Int))) rfl rfl (wr o115) rfl <| Jc 2 ?_
    have hS := hS.pick [1, 0, 2, 3, 4, 5, 6] rfl
    exact ⟨(x91, (z63 + (1 : Int)), hs92), ⟨rfl, rfl, rfl, rfl, rfl, rfl, trivial⟩, hv.2, rfl, hv.1, hS⟩
   have hv := hv.2 (of_decide_eq_false c68)
   refine JA <| Jg 2 <| Jk (cs := [.int .i64 (m.length : Int), .slice A38_5 Cm.toNat k41_5]) Jv JN rfl rfl (Jb (hS.own (i := 0) rfl)) rfl <| Jw (cs := [.int .i64 (m.length : Int), .slice A38_5 Cm.toNat k41_5]) 4 hS rfl Jv rfl rfl rfl rfl rfl ?_
   intro w117 hS
   refine Jc 2 <| W.ret ?_
   have hS := hS.pick [1, 0, 2, 3, 4, 5, 6] rfl
   have hm0 := hS.mxlen (i := 0) rfl
   have hS := hS.relenMx (i := 0) rfl hm0.symm
   change St _ _ _ _ [mx 22 3 A38_5 ((x61).length) k41_5 hs62 x61, .row 27 2 (some ⟨g47_7, 0, none⟩) 1 1 [.int .i64 (m.length : Int), .slice A38_5 Cm.toNat k41_5], .ch lo25 hi26 (fun wz => GFX lo25 hi26 wz ad24 F23), .row 27 2 A17 1 1 [.int .i64 Cm, .slice Am m.length km], .row 27 2 (some ⟨g15, 0, none⟩) 1 1 [.int .i64 (m.length : Int), .slice A38_5 Cm.toNat k41_5], .row 27 2 (some ⟨g13, 0, none⟩) 1 1 [.int .i64 Cm, .slice Am m.length km], .row 24 3 (some ⟨g11, 0, none⟩) 1 1 [.int .i64 Pf, .int .i64 Mf, .slice Af mf.length kf]] at hS
   repeat with_reducible first | refine blk.ret ?_ | refine exits.retI ?_
   refine endC.mk ⟨[.agg #[.int .i64 (m.length : Int), .slice A38_5 Cm.toNat k41_5], .int .i64 0], ⟨_, _, _, rfl, rfl, JO (cs := [.int .i64 (m.length : Int), .slice A38_5 Cm.toNat k41_5]) Jv JN rfl (Jb (hS.own (i := 4) rfl)), ⟨_, _, rfl, rfl, rfl⟩⟩, ?_⟩
   exact ⟨_, hS.ext, (hS.pick [0] rfl).rows, Ji (hS.pick [0] rfl).rows rfl, ⟨(m.length : Int), x61, (0 : Int), A38_5, k41_5, hs62, (by first | (rw [show (Value.slice A38_5 Cm.toNat k41_5) = Value.slice A38_5 (x61).length k41_5 from sm0 hm0.symm]; done) | (rw [show (Value.slice A38_5 Cm.toNat k41_5) = Value.slice A38_5 (x61).length k41_5 from sm0 hm0.symm]; rfl)), rfl, hv⟩⟩
def Jbm (Pf : Int) (Mf : Int) (mf : List Int) (Ca : Int) (a : List (List Int)) (Cb : Int) (b : List (List Int)) (Q : Int × List (List Int) × Int -> Prop) : Prop :=
  YU Pf Mf mf ([(Ca, a), (Cb, b)] : List Mt) (fun q => match q with | (none, r24) => (r24 ≠ (0 : Int)) -> (Q ((0 : Int), ([] : List (List Int)), r24)) | (some F25, _) => ((Ca ≠ (b.length : Int)) -> (Q ((0 : Int), ([] : List (List Int)), (10 : Int)))) /\ (¬ (Ca ≠ (b.length : Int)) -> ((0 <= (a.length : Int) /\ (a.length : Int) * 24 <= 281474976710656 /\ (a.length : Int) <= 281474976710656) /\ (∃ (I69 : List (List Int) -> Int -> Prop) (μ70 : List (List Int) -> Int -> Nat), I69 (List.replicate (a.length : Int).toNat ([] : List Int)) (0 : Int) /\ ∀ (x66 : List (List Int)) (z68 : Int), (I69 x66 z68 -> (((z68 < (a.length : Int)) -> ((0 <= z68 /\ z68 < (a.length : Nat)) /\ (∃ (x81 : List Int), ZX F25 (gl a z68) Cb b (fun q => q = x81) /\ ((0 <= z68 /\ z68 < ((a.length : Int).toNat : Nat)) /\ ((I64 (z68 + (1 : Int))) /\ (I69 (sll x66 z68 x81) (z68 + (1 : Int)) /\ μ70 (sll x66 z68 x81) (z68 + (1 : Int)) < μ70 x66 z68)))))) /\ (¬ (z68 < (a.length : Int)) -> (Q (Cb, x66, (0 : Int))))))))))
theorem Jc8 {w : World} {Q : Int × List (List Int) × Int -> Prop} {Pf : Int} {Mf : Int} {mf : List Int} {Ca : Int} {a : List (List Int)} {Cb : Int} {b : List (List Int)} {Bf : Nat} {Af : Option Addr} {nf kf : Nat} (hf : Rd Bf w 1 Af nf kf (is mf)) {Aa : Option Addr} {na ka : Nat} (ha : Rl w Aa na ka a) {Ab : Option Addr} {nb kb : Nat} (hb : Rl w Ab nb kb b) (hv : Jbm Pf Mf mf Ca a Cb b Q) :
    Calls Try.prog 31 #[.agg #[.int .i64 Pf, .int .i64 Mf, .slice Af nf kf], .agg #[.int .i64 Ca, .slice Aa na ka], .agg #[.int .i64 Cb, .slice Ab nb kb]] w fun e w' => ∃ v Qr, e = .returned v /\ w.grownBy w' none /\ Rows w.heap.size none w' Qr /\ News w.heap.size Qr /\ ∃ (c0 : Int) (r0 : List (List Int)) (r1 : Int) (A0 : Option Addr) (k0 : Nat) (hs0 : Hs), v = .tuple #[.agg #[.int .i64 c0, .slice A0 r0.length k0], .int .i64 r1] /\ Qr = [mx 22 3 A0 r0.length k0 hs0 r0] /\ Q (c0, r0, r1) := by
  have hnf := hf.ilen
  subst hnf
  have hna := ha.len
  subst hna
  obtain ⟨hsa, hHa⟩ := ha.heads
  have hnb := hb.len
  subst hnb
  obtain ⟨hsb, hHb⟩ := hb.heads
  refine Jp <| QJ (vs := [.agg #[.int .i64 Pf, .int .i64 Mf, .slice Af mf.length kf], .agg #[.int .i64 Ca, .slice Aa a.length ka], .agg #[.int .i64 Cb, .slice Ab b.length kb]]) [.cell 6 27, .tmp 7] Jqd rfl rfl rfl rfl ?_
  have hS := Js w
  unfold Jbm at hv
  refine Jg 2 <| JF (z := 3) (cs := [.int .i64 Pf, .int .i64 Mf, .slice Af mf.length kf]) hS rfl rfl rfl rfl ?_
  intro g11 w12 hS
  refine JF (z := 2) (cs := [.int .i64 Ca, .slice Aa a.length ka]) hS rfl rfl rfl rfl ?_
  intro g13 w14 hS
  refine JF (z := 2) (cs := [.int .i64 Cb, .slice Ab b.length kb]) hS rfl rfl rfl rfl ?_
  intro g15 w16 hS
  refine SL.alloc (cs := [.int .i64 0, .slice none 0 0]) hS Jv rfl rfl ?_
  intro g17 w18 hS
  refine Jc 2 <| Jg 2 <| Jk (cs := [.int .i64 Pf, .int .i64 Mf, .slice Af mf.length kf]) JT JY rfl rfl (Jb (hS.own (i := 3) rfl)) rfl <| Jk (cs := [.int .i64 Ca, .slice Aa a.length ka]) Jv JN rfl rfl (Jb (hS.own (i := 2) rfl)) rfl <| Jk (cs := [.int .i64 Cb, .slice Ab b.length kb]) Jv JN rfl rfl (Jb (hS.own (i := 1) rfl)) rfl <| ZC (cells := [.int .i64 Ca, .slice Aa a.length ka, .int .i64 Cb, .slice Ab b.length kb]) hS Je4 Jv rfl ⟨_, rfl, rfl⟩ rfl rfl ?_
  intro A19 w20 hS
  refine SL.call hS (Zu (hS.ro hf) (⟨_, _, (hS.rd (i := 0) rfl), ⟨rfl, ⟨_, _, (sm0 (Rl.len (RlH.rl (RlH.ext hHa hS.ext))).symm), (Jdw (RlH.rl (RlH.ext hHa hS.ext)))⟩, rfl, ⟨_, _, (sm0 (Rl.len (RlH.rl (RlH.ext hHb hS.ext))).symm), (Jdw (RlH.rl (RlH.ext hHb hS.ext)))⟩, trivial⟩⟩ : Rm _ _ _ _ ([(Ca, a), (Cb, b)] : List Mt)) hv) Jjo rfl Jla rfl rfl ?_
  rintro _ _ w23 ⟨o, r24, hv, hK⟩ hGw23 hS
  cases o with
  | none =>
   obtain ⟨hn31, rfl, rfl⟩ := hK
   have hv := hv hn31
   have hS := hS.n0
   refine Jc 6 <| Jg 4 <| QY rfl rfl rfl ?_; rw [decide_eq_true hn31]
   refine Ja <| JV rfl <| Jg 2 <| J2 (cells := #[.int .i64 0, .slice none 0 0]) Zg rfl rfl rfl <| Je rfl rfl <| Jw (cs := [.int .i64 0, .slice none 0 0]) 1 hS rfl Jv rfl rfl rfl rfl rfl ?_
   intro w32 hS
   refine Jc 2 <| W.ret ?_
   have hS := hS.mxNil 22 3
   have hm0 := hS.mxlen (i := 0) rfl
   have hS := hS.relenMx (i := 0) rfl hm0.symm
   change St _ _ _ _ [mx 22 3 none ((([] : List (List Int))).length) 0 (fun _ => (none, 0)) ([] : List (List Int)), .row 27 2 A19 2 2 [.int .i64 Ca, .slice Aa a.length ka, .int .i64 Cb, .slice Ab b.length kb], .row 27 2 (some ⟨g17, 0, none⟩) 1 1 [.int .i64 0, .slice none 0 0], .row 27 2 (some ⟨g15, 0, none⟩) 1 1 [.int .i64 Cb, .slice Ab b.length kb], .row 27 2 (some ⟨g13, 0, none⟩) 1 1 [.int .i64 Ca, .slice Aa a.length ka], .row 24 3 (some ⟨g11, 0, none⟩) 1 1 [.int .i64 Pf, .int .i64 Mf, .slice Af mf.length kf]] at hS
   repeat with_reducible first | refine blk.ret ?_ | refine exits.retI ?_
   refine endC.mk ⟨[.agg #[.int .i64 0, .slice none 0 0], .int .i64 r24], ⟨_, _, _, rfl, rfl, JO (cs := [.int .i64 0, .slice none 0 0]) Jv JN rfl (Jb (hS.own (i := 2) rfl)), ⟨_, _, rfl, rfl, rfl⟩⟩, ?_⟩
   exact ⟨_, hS.ext, (hS.pick [0] rfl).rows, Ji (hS.pick [0] rfl).rows rfl, ⟨(0 : Int), ([] : List (List Int)), r24, none, 0, (fun _ => (none, 0)), (by first | (rw [show (Value.slice none 0 0) = Value.slice none (([] : List (List Int))).length 0 from sm0 hm0.symm]; done) | (rw [show (Value.slice none 0 0) = Value.slice none (([] : List (List Int))).length 0 from sm0 hm0.symm]; rfl)), rfl, hv⟩⟩
  | some F25 =>
   obtain ⟨rfl, ad26, lo27, hi28, rfl, rfl⟩ := hK
   have hS := hS.n1
   refine Jc 6 <| Jg 6 <| Qv rfl <| Jn <| Jg 3 <| Jh (off := 0) J1 rfl rfl <| Jd XU3 rfl rfl (Jb (hS.own (i := 4) rfl) 0 _ rfl) rfl <| Jh (off := 1) JI rfl rfl <| Jd Jt rfl rfl (Jb (hS.own (i := 3) rfl) 1 _ rfl) rfl <| WL.len Jt rfl rfl <| Jc 2 <| Jm rfl (fun c34 => ?_) (fun c34 => ?_)
   .have hv := hv.1 (of_decide_eq_true c34)
    refine Jg 2 <| J2 (cells := #[.int .i64 0, .slice none 0 0]) Zg rfl rfl rfl <| Jw (cs := [.int .i64 0, .slice none 0 0]) 2 hS rfl Jv rfl rfl rfl rfl rfl ?_
    intro w35 hS
    refine Jc 2 <| W.ret ?_
    have hS := hS.mxNil 22 3
    have hm0 := hS.mxlen (i := 0) rfl
    have hS := hS.relenMx (i := 0) rfl hm0.symm
    change St _ _ _ _ [mx 22 3 none ((([] : List (List Int))).length) 0 (fun _ => (none, 0)) ([] : List (List Int)), .ch lo27 hi28 (fun wz => GFX lo27 hi28 wz ad26 F25), .row 27 2 A19 2 2 [.int .i64 Ca, .slice Aa a.length ka, .int .i64 Cb, .slice Ab b.length kb], .row 27 2 (some ⟨g17, 0, none⟩) 1 1 [.int .i64 0, .slice none 0 0], .row 27 2 (some ⟨g15, 0, none⟩) 1 1 [.int .i64 Cb, .slice Ab b.length kb], .row 27 2 (some ⟨g13, 0, none⟩) 1 1 [.int .i64 Ca, .slice Aa a.length ka], .row 24 3 (some ⟨g11, 0, none⟩) 1 1 [.int .i64 Pf, .int .i64 Mf, .slice Af mf.length kf]] at hS
    repeat with_reducible first | refine blk.ret ?_ | refine exits.retI ?_
    refine endC.mk ⟨[.agg #[.int .i64 0, .slice none 0 0], .int .i64 10], ⟨_, _, _, rfl, rfl, JO (cs := [.int .i64 0, .slice none 0 0]) Jv JN rfl (Jb (hS.own (i := 3) rfl)), ⟨_, _, rfl, rfl, rfl⟩⟩, ?_⟩
    exact ⟨_, hS.ext, (hS.pick [0] rfl).rows, Ji (hS.pick [0] rfl).rows rfl, ⟨(0 : Int), ([] : List (List Int)), (10 : Int), none, 0, (fun _ => (none, 0)), (by first | (rw [show (Value.slice none 0 0) = Value.slice none (([] : List (List Int))).length 0 from sm0 hm0.symm]; done) | (rw [show (Value.slice none 0 0) = Value.slice none (([] : List (List Int))).length 0 from sm0 hm0.symm]; rfl)), rfl, hv⟩⟩
   have hv := hv.2 (of_decide_eq_false c34)
   refine Jn <| JB ?_
   obtain ⟨o45, hv⟩ := hv
   have hS0 := hS
   refine QA 8 (fun iA => [false, false, false, false, false, true, false, true].getD iA false) (fun iC => match iC with | 6 => some 5 | _ => none) (fun iP v_ => match iP with | 6 => .agg #[.int .i64 Cb, v_] | _ => v_) [⟨[], [5], true⟩, ⟨[0], [], false⟩, ⟨[], [4], true⟩, ⟨[2], [], false⟩, ⟨[3], [], true⟩, ⟨[4], [], false⟩, ⟨[1, 5], [], true⟩, ⟨[], [], false⟩] [[(5, .pointer (some ⟨g15, 0, none⟩))], [], [(4, .pointer (some ⟨g13, 0, none⟩))], [], [], [], [], []] (fun iQ => [fun v _ => v = .pointer (some ⟨g15, 0, none⟩), fun v _ => v = .int .i64 Cb, fun v _ => v = .pointer (some ((⟨g13, 0, none⟩ : Addr).add 1)), fun v _ => v = .slice Aa a.length ka, fun v _ => v = .int .i64 (a.length : Int), fun v wQ => ∃ A43_5 k46_5, v = .slice A43_5 ((a.length : Int).toNat) k46_5 /\ Rows w23.heap.size none wQ [mx 22 3 A43_5 ((a.length : Int).toNat) k46_5 (fun _ => (none, 0)) (List.replicate (a.length : Int).toNat ([] : List Int))], fun v wQ => ∃ A43_5_6 k46_5_6, v = .agg #[.int .i64 Cb, .slice A43_5_6 ((a.length : Int).toNat) k46_5_6] /\ Rows w23.heap.size none wQ [mx 22 3 A43_5_6 ((a.length : Int).toNat) k46_5_6 (fun _ => (none, 0)) (List.replicate (a.length : Int).toNat ([] : List Int))], fun v wQ => ∃ g52_7, v = .pointer (some ⟨g52_7, 0, none⟩) /\ Own 0 wQ 27 2 (some ⟨g52_7, 0, none⟩) 1 1 [.int .i64 0, .slice none 0 0] /\ (∀ g, bl (some ⟨g52_7, 0, none⟩) = some g -> w23.heap.size <= g)].getD iQ (fun _ _ => True)) (fun iD => [vbD, vbD, vbD, vbD, vbD, rch, vbD, vbD].getD iD vbD) Try.mixed (by kernel_rfl) ?_ ?_ (by kernel_rfl) ?_ ?_
   . refine J4 _ ?_
     intro VQ hVQ vQ wQ1 wQ2 hQ1 hQ2
     simp only [List.mem_cons, List.not_mem_nil, or_false] at hVQ
     rcases hVQ with rfl | rfl | rfl | rfl | rfl | rfl | rfl | rfl
     any_goals exact hQ1
     . obtain ⟨A43_5, k46_5, hQe, hR47_5⟩ := hQ1
       exact ⟨A43_5, k46_5, hQe, hR47_5.ext hQ2⟩
     . obtain ⟨A43_5_6, k46_5_6, hQe, hR47_5_6⟩ := hQ1
       exact ⟨A43_5_6, k46_5_6, hQe, hR47_5_6.ext hQ2⟩
     obtain ⟨g52_7, hQe, hO54_7, hN55_7⟩ := hQ1
     exact ⟨g52_7, hQe, hO54_7.ext hQ2, hN55_7⟩
   . intro jD vD w1D w2D hvD hgD gD hD_
     rcases jD with _ | _ | _ | _ | _ | _ | _ | _ | jD
     any_goals exact hD_
     obtain ⟨A43_5, k46_5, rfl, hR47_5⟩ := hvD
     exact YN hR47_5 hgD hD_
   . refine ⟨⟨rfl, ⟨rfl, trivial⟩, ?_⟩, ⟨rfl, trivial, ?_⟩, ⟨rfl, ⟨rfl, trivial⟩, ?_⟩, ⟨rfl, trivial, ?_⟩, ⟨rfl, trivial, ?_⟩, ⟨rfl, trivial, ?_⟩, ⟨rfl, trivial, ?_⟩, ⟨rfl, trivial, ?_⟩, trivial⟩
     . intro w37 hE
       intro RR
       refine Jh (off := 0) J1 rfl rfl ?_
       exact Ja ⟨_, rfl, dnq rfl rfl rfl rfl⟩
     . intro w38 hE
       have hE := hE rfl
       have hS := hS.grow hE
       rintro _ rfl
       intro RR
       refine Jd XU3 rfl rfl (Jb (hS.own (i := 3) rfl) 0 _ rfl) rfl ?_
       exact Ja ⟨_, rfl, dnq (Jj _) rfl rfl rfl⟩
     . intro w39 hE
       intro RR
       refine Jh (off := 1) JI rfl rfl ?_
       exact Ja ⟨_, rfl, dnq rfl rfl rfl rfl⟩
     . intro w40 hE
       have hE := hE rfl
       have hS := hS.grow hE
       rintro _ rfl
       intro RR
       refine Jd Jt rfl rfl (Jb (hS.own (i := 4) rfl) 1 _ rfl) rfl ?_
       exact Ja ⟨_, rfl, dnq (Jj _) rfl rfl rfl⟩
     . intro w41 hE
       rintro _ rfl
       intro RR
       refine WL.len Jt rfl rfl ?_
       exact Ja ⟨_, rfl, dnq rfl rfl rfl rfl⟩
     . intro w42 hE
       have hE := hE rfl
       have hS := hS.grow hE
       rintro _ rfl
       intro RR
       refine Zo (J := (a.length : Int)) Jt Jy rfl rfl o45 (Jaf _) rfl ?_
       intro A43 k46 w44 hO48 hN49 hGw44
       have hR47w := Jfi (eI := 3) hO48 hN49
       have hR47 := hR47w.mxbase hE.size
       exact Ja ⟨_, rfl, hGw44, ⟨A43, k46, rfl, hR47⟩, (fun _ => fun g hg => Zt hR47w hg), (fun j h => by cases h)⟩
     . intro w50 hE
       rintro _ rfl
       rintro _ ⟨A43_5, k46_5, rfl, hR47_5⟩
       intro RR
       refine J2 (cells := #[.int .i64 Cb, .slice A43_5 ((a.length : Int).toNat) k46_5]) Zg rfl rfl rfl ?_
       exact Ja ⟨_, rfl, rfl, ⟨A43_5, k46_5, rfl, hR47_5⟩, (fun h => absurd h (by decide)), (fun j h => by cases h; exact ⟨_, rfl, rfl⟩)⟩
     intro w51 hE
     have hE := hE rfl
     have hS := hS.grow hE
     intro RR
     refine WL.alloc Jv rfl ?_
     intro g52 w53 hg52 hO54 hGw53
     have hN55 : ∀ g2, bl (some ⟨g52, 0, none⟩) = some g2 -> _ <= g2 := fun g2 e => by cases e; rw [hg52]; exact hE.size
     have hO54 := Own.low (b' := 0) hO54 (Nat.zero_le _)
     exact Ja ⟨_, rfl, hGw53, ⟨g52, rfl, hO54, hN55⟩, (fun _ => fun g2 hg2 => by cases hg2; exact ⟨Nat.le_of_eq hg52.symm, (hO54.bl_ge _ rfl).2⟩), (fun j h => by cases h)⟩
   intro vals w56 hT hVs hAp hCp
   have hS := hS.grow hT
   have hv0 : vals 0 = _ := hVs 0 (by decide)
   have hv1 : vals 1 = _ := hVs 1 (by decide)
   have hv2 : vals 2 = _ := hVs 2 (by decide)
   have hv3 : vals 3 = _ := hVs 3 (by decide)
   have hv4 : vals 4 = _ := hVs 4 (by decide)
   obtain ⟨A43_5, k46_5, hv5, hR47_5⟩ := hVs 5 (by decide)
   have hv6 : vals 6 = .agg #[.int .i64 Cb, .slice A43_5 ((a.length : Int).toNat) k46_5] := (hCp 6 5 (by decide) rfl).trans (congrArg (fun v_ : Value => (.agg #[.int .i64 Cb, v_] : Value)) hv5)
   obtain ⟨g52_7, hv7, hO54_7, hN55_7⟩ := hVs 7 (by decide)
   have hS := YR [] hS0 hS hR47_5 (fun s hs => by cases hs)
   have hap7_5 : ∀ g, (.row 27 2 (some ⟨g52_7, 0, none⟩) 1 1 [.int .i64 0, .slice none 0 0] : Rw).at_ g -> ¬ (mx 22 3 A43_5 ((a.length : Int).toNat) k46_5 (fun _ => (none, 0)) (List.replicate (a.length : Int).toNat ([] : List Int)) : Rw).at_ g := by have h_ := hAp 7 5 (by decide) (by decide) (by decide) rfl rfl; rw [hv7, hv5] at h_; exact fun g h1 h2 => h_ g h1 (Jbr hR47_5 h2)
   have hS := Qe [mx 22 3 A43_5 ((a.length : Int).toNat) k46_5 (fun _ => (none, 0)) (List.replicate (a.length : Int).toNat ([] : List Int))] hS0 hS hO54_7 hN55_7 (by intro s hs g hg; simp only [List.mem_cons, List.not_mem_nil, or_false] at hs; obtain rfl := hs; exact hap7_5 g hg)
   show WA _ _ _ _ _ _ _ _ ([(32, vals 0), (33, vals 1), (34, vals 2), (35, vals 3), (36, vals 4), (37, vals 5), (38, vals 6), (10, vals 7)] ++ _) _
   rw [hv0, hv1, hv2, hv3, hv4, hv5, hv6, hv7]
   refine Jf 8 (by decide +kernel) rfl <| Jw (cs := [.int .i64 Cb, .slice A43_5 ((a.length : Int).toNat) k46_5]) 0 hS rfl Jv rfl rfl rfl rfl rfl ?_
   intro w59 hS
   refine Ja <| Jr (by decide +kernel) <| Jg 3 <| Jh (off := 1) JI rfl rfl <| Jd Jt rfl rfl (Jb (hS.own (i := 6) rfl) 1 _ rfl) rfl <| WL.len Jt rfl rfl <| Jc 2 <| W.block ?_
   obtain ⟨I69, μ70, hv, hk95⟩ := hv
   refine JE (σ := List (List Int) × Int × Hs) (fun q w1 => match q with | (x66, z68, hs67) => I69 x66 z68 /\ St TT w none w1 [.row 27 2 (some ⟨g52_7, 0, none⟩) 1 1 [.int .i64 Cb, .slice A43_5 ((a.length : Int).toNat) k46_5], mx 22 3 A43_5 ((a.length : Int).toNat) k46_5 hs67 x66, .ch lo27 hi28 (fun wz => GFX lo27 hi28 wz ad26 F25), .row 27 2 A19 2 2 [.int .i64 Ca, .slice Aa a.length ka, .int .i64 Cb, .slice Ab b.length kb], .row 27 2 (some ⟨g17, 0, none⟩) 1 1 [.int .i64 0, .slice none 0 0], .row 27 2 (some ⟨g15, 0, none⟩) 1 1 [.int .i64 Cb, .slice Ab b.length kb], .row 27 2 (some ⟨g13, 0, none⟩) 1 1 [.int .i64 Ca, .slice Aa a.length ka], .row 24 3 (some ⟨g11, 0, none⟩) 1 1 [.int .i64 Pf, .int .i64 Mf, .slice Af mf.length kf]]) (fun q => match q with | (x66, z68, hs67) => [(5, .pointer (some ⟨g15, 0, none⟩)), (6, .pointer (some ⟨g17, 0, none⟩)), (7, .int .i64 0), (8, .pointer (some ad26)), (10, .pointer (some ⟨g52_7, 0, none⟩)), (40, .slice Aa a.length ka), (41, .int .i64 (a.length : Int)), (42, .int .i64 z68)]) (fun q => match q with | (x66, z68, hs67) => μ70 x66 z68) (List.replicate (a.length : Int).toNat ([] : List Int), (0 : Int), (fun _ => (none, 0))) ⟨hv, hS⟩ ⟨rfl, rfl, rfl, rfl, rfl, rfl, rfl, rfl, trivial⟩ ?_
   rintro ⟨x66, z68, hs67⟩ w71 ⟨hv, hS⟩
   have hv := hk95 x66 z68 hv
   refine Jg 5 <| Jm rfl (fun c72 => ?_) (fun c72 => ?_)
   .have hv := hv.1 (of_decide_eq_true c72)
    refine Jn <| JB <| W.block <| Jg 3 ?_
    obtain ⟨o73, hv⟩ := hv
    refine Qf Jt Jy hHa rfl rfl o73 rfl <| Jd Jq rfl rfl (hS.cell (RlH.cell hHa o73)) rfl <| Jc 3 ?_
    obtain ⟨x81, o88, hv⟩ := hv
    have hS0 := hS
    refine QA 7 (fun iA => [false, false, false, false, false, false, true].getD iA false) (fun _ => none) (fun _ v => v) [⟨[], [10], true⟩, ⟨[0], [], false⟩, ⟨[], [11], true⟩, ⟨[], [8], true⟩, ⟨[], [12], true⟩, ⟨[], [5], false⟩, ⟨[3, 4, 5], [], false⟩] [[(10, .pointer (some ⟨g52_7, 0, none⟩))], [], [(11, .int .i64 z68)], [(8, .pointer (some ad26))], [(12, .slice ((hsa z68.toNat).1) ((gl a z68).length) ((hsa z68.toNat).2))], [(5, .pointer (some ⟨g15, 0, none⟩))], []] (fun iQ => [fun v _ => v = .pointer (some ((⟨g52_7, 0, none⟩ : Addr).add 1)), fun v _ => v = .slice A43_5 ((a.length : Int).toNat) k46_5, fun v _ => v = .int .i64 z68, fun v _ => v = .pointer (some ad26), fun v _ => v = .slice ((hsa z68.toNat).1) ((gl a z68).length) ((hsa z68.toNat).2), fun v _ => v = .agg #[.int .i64 Cb, .slice Ab b.length kb], fun v wQ => ∃ A82_6 k83_6, v = .slice A82_6 x81.length k83_6 /\ Own 0 wQ 3 1 A82_6 x81.length k83_6 (is x81) /\ (∀ g, bl A82_6 = some g -> w71.heap.size <= g)].getD iQ (fun _ _ => True)) (fun _ => vbD) Try.mixed (by kernel_rfl) ?_ (fun _ _ _ _ _ _ _ h => h) (by kernel_rfl) ?_ ?_
    . refine J4 _ ?_
      intro VQ hVQ vQ wQ1 wQ2 hQ1 hQ2
      simp only [List.mem_cons, List.not_mem_nil, or_false] at hVQ
      rcases hVQ with rfl | rfl | rfl | rfl | rfl | rfl | rfl
      any_goals exact hQ1
      obtain ⟨A82_6, k83_6, hQe, hO86_6, hN87_6⟩ := hQ1
      exact ⟨A82_6, k83_6, hQe, hO86_6.ext hQ2, hN87_6⟩
    . refine ⟨⟨rfl, ⟨rfl, trivial⟩, ?_⟩, ⟨rfl, trivial, ?_⟩, ⟨rfl, ⟨rfl, trivial⟩, ?_⟩, ⟨rfl, ⟨rfl, trivial⟩, ?_⟩, ⟨rfl, ⟨rfl, trivial⟩, ?_⟩, ⟨rfl, ⟨rfl, trivial⟩, ?_⟩, ⟨rfl, trivial, ?_⟩, trivial⟩
      . intro w74 hE
        intro RR
        refine Jh (off := 1) JI rfl rfl ?_
        exact Ja ⟨_, rfl, dnq rfl rfl rfl rfl⟩
      . intro w75 hE
        have hE := hE rfl
        have hS := hS.grow hE
        rintro _ rfl
        intro RR
        refine Jd Jt rfl rfl (Jb (hS.own (i := 0) rfl) 1 _ rfl) rfl ?_
        exact Ja ⟨_, rfl, dnq (Jj _) rfl rfl rfl⟩
      . intro w76 hE
        intro RR
        refine Je rfl rfl ?_
        exact Ja ⟨_, rfl, dnq rfl rfl rfl rfl⟩
      . intro w77 hE
        intro RR
        refine Je rfl rfl ?_
        exact Ja ⟨_, rfl, dnq rfl rfl rfl rfl⟩
      . intro w78 hE
        intro RR
        refine Je rfl rfl ?_
        exact Ja ⟨_, rfl, dnq rfl rfl rfl rfl⟩
      . intro w79 hE
        have hE := hE rfl
        have hS := hS.grow hE
        intro RR
        refine Jk (cs := [.int .i64 Cb, .slice Ab b.length kb]) Jv JN rfl rfl (Jb (hS.own (i := 5) rfl)) rfl ?_
        exact Ja ⟨_, rfl, dnq (Jj _) rfl rfl rfl⟩
      intro w80 hE
      have hE := hE rfl
      have hS := hS.grow hE
      rintro _ rfl
      rintro _ rfl
      rintro _ rfl
      intro RR
      refine WL.call XF70 rfl XN70 rfl rfl (JP (Jgl (GFX.gfr (hS.chunk (i := 2) rfl)) (hS.ro (Qw hHa o73)) (RlH.rl (RlH.ext hHb hS.ext)) o88)) ?_
      rintro _ w85 ⟨_, hGw85, hRww85, hNww85, x81q, A82, k83, rfl, rfl, he⟩
      subst he
      have hO86 := (hRww85.get (i := 0) rfl).1
      have hN87 : ∀ g, bl A82 = some g -> _ <= g := fun g hg => Nat.le_trans hE.size (hNww85.1 g hg)
      exact Ja ⟨_, rfl, hGw85, ⟨A82, k83, rfl, hO86, hN87⟩, (fun _ => fun g hg => ⟨hNww85.1 g hg, (hO86.bl_ge g hg).2⟩), (fun j h => by cases h)⟩
    intro vals w89 hT hVs hAp hCp
    have hS := hS.grow hT
    have hv0 : vals 0 = _ := hVs 0 (by decide)
    have hv1 : vals 1 = _ := hVs 1 (by decide)
    have hv2 : vals 2 = _ := hVs 2 (by decide)
    have hv3 : vals 3 = _ := hVs 3 (by decide)
    have hv4 : vals 4 = _ := hVs 4 (by decide)
    have hv5 : vals 5 = _ := hVs 5 (by decide)
    obtain ⟨A82_6, k83_6, hv6, hO86_6, hN87_6⟩ := hVs 6 (by decide)
    have hS := Qe [] hS0 hS hO86_6 hN87_6 (fun s hs => by cases hs)
    show WA _ _ _ _ _ _ _ _ ([(47, vals 0), (48, vals 1), (49, vals 2), (50, vals 3), (51, vals 4), (52, vals 5), (53, vals 6)] ++ _) _
    rw [hv0, hv1, hv2, hv3, hv4, hv5, hv6]
    refine Jf 7 (by decide +kernel) rfl ?_
    obtain ⟨o91, hv⟩ := hv
    refine JC 2 Jt Jy hS rfl rfl rfl o91 rfl <| Ja <| Jf 8 (by decide +kernel) rfl ?_
    have hS := hS.pick [0, 2, 1, 3, 4, 5, 6, 7, 8] rfl
    refine Q9 hS Jy o91 (hS.rd (i := 0) rfl).ilen.symm rfl rfl ?_
    intro w92 hS
    refine Ja <| Jr (by decide +kernel) <| JG ?_
    obtain ⟨o93, hv⟩ := hv
    refine WL.add (r := (z68 + (1 : Int))) rfl rfl (wr o93) rfl <| Jc 2 ?_
    have hS := hS.pick [1, 0, 2, 3, 4, 5, 6, 7] rfl
    exact ⟨(sll x66 z68 x81, (z68 + (1 : Int)), (up hs67 z68.toNat (A82_6, k83_6))), ⟨rfl, rfl, rfl, rfl, rfl, rfl, rfl, rfl, trivial⟩, hv.2, rfl, hv.1, hS⟩
   have hv := hv.2 (of_decide_eq_false c72)
   refine JA <| Jg 2 <| Jk (cs := [.int .i64 Cb, .slice A43_5 ((a.length : Int).toNat) k46_5]) Jv JN rfl rfl (Jb (hS.own (i := 0) rfl)) rfl <| Jw (cs := [.int .i64 Cb, .slice A43_5 ((a.length : Int).toNat) k46_5]) 4 hS rfl Jv rfl rfl rfl rfl rfl ?_
   intro w94 hS
   refine Jc 2 <| W.ret ?_
   have hS := hS.pick [1, 0, 2, 3, 4, 5, 6, 7] rfl
   have hm0 := hS.mxlen (i := 0) rfl
   have hS := hS.relenMx (i := 0) rfl hm0.symm
   change St _ _ _ _ [mx 22 3 A43_5 ((x66).length) k46_5 hs67 x66, .row 27 2 (some ⟨g52_7, 0, none⟩) 1 1 [.int .i64 Cb, .slice A43_5 ((a.length : Int).toNat) k46_5], .ch lo27 hi28 (fun wz => GFX lo27 hi28 wz ad26 F25), .row 27 2 A19 2 2 [.int .i64 Ca, .slice Aa a.length ka, .int .i64 Cb, .slice Ab b.length kb], .row 27 2 (some ⟨g17, 0, none⟩) 1 1 [.int .i64 Cb, .slice A43_5 ((a.length : Int).toNat) k46_5], .row 27 2 (some ⟨g15, 0, none⟩) 1 1 [.int .i64 Cb, .slice Ab b.length kb], .row 27 2 (some ⟨g13, 0, none⟩) 1 1 [.int .i64 Ca, .slice Aa a.length ka], .row 24 3 (some ⟨g11, 0, none⟩) 1 1 [.int .i64 Pf, .int .i64 Mf, .slice Af mf.length kf]] at hS
   repeat with_reducible first | refine blk.ret ?_ | refine exits.retI ?_
   refine endC.mk ⟨[.agg #[.int .i64 Cb, .slice A43_5 ((a.length : Int).toNat) k46_5], .int .i64 0], ⟨_, _, _, rfl, rfl, JO (cs := [.int .i64 Cb, .slice A43_5 ((a.length : Int).toNat) k46_5]) Jv JN rfl (Jb (hS.own (i := 4) rfl)), ⟨_, _, rfl, rfl, rfl⟩⟩, ?_⟩
   exact ⟨_, hS.ext, (hS.pick [0] rfl).rows, Ji (hS.pick [0] rfl).rows rfl, ⟨Cb, x66, (0 : Int), A43_5, k46_5, hs67, (by first | (rw [show (Value.slice A43_5 ((a.length : Int).toNat) k46_5) = Value.slice A43_5 (x66).length k46_5 from sm0 hm0.symm]; done) | (rw [show (Value.slice A43_5 ((a.length : Int).toNat) k46_5) = Value.slice A43_5 (x66).length k46_5 from sm0 hm0.symm]; rfl)), rfl, hv⟩⟩
end Go.Proofs.Ytiboieijhehjnaa
set_option linter.unusedSimpArgs false
set_option linter.unusedVariables false
set_option maxRecDepth 4000
set_option maxHeartbeats 4000000
namespace Go.Proofs.Ytiboieijhehjnaa
open Go.RowKit
def Jjw (Pf : Int) (Mf : Int) (mf : List Int) (Ca : Int) (a : List (List Int)) (Cb : Int) (b : List (List Int)) (Q : Bool -> Prop) : Prop :=
  QP  (fun r18 => (((!r18) = true) -> (QP  (fun r21 => Q r21))) /\ ((!r18) = false -> (Jcs Ca a (150 : Int) (fun r23 => (((!r23) = true) -> (QP  (fun r26 => Q r26))) /\ ((!r23) = false -> (Jcs Cb b (150 : Int) (fun r28 => (((!r28) = true) -> (QP  (fun r31 => Q r31))) /\ ((!r28) = false -> (Jbm Pf Mf mf Ca a Cb b (fun q => match q with | (c33, x34, r35) => ((r35 ≠ (0 : Int)) -> Q true) /\ (¬ (r35 ≠ (0 : Int)) -> (Yo Pf Mf mf Ca a (fun q => match q with | (c45, x46, r47) => Yo Pf Mf mf Cb b (fun q => match q with | (c56, x57, r58) => ((r47 ≠ (0 : Int)) -> Q false) /\ (¬ (r47 ≠ (0 : Int)) -> (((r58 ≠ (0 : Int)) -> Q false) /\ (¬ (r58 ≠ (0 : Int)) -> (Yo Pf Mf mf c33 x34 (fun q => match q with | (c69, x70, r71) => Jbm Pf Mf mf c56 x57 c45 x46 (fun q => match q with | (c80, x81, r82) => ((r71 ≠ (0 : Int)) -> Q false) /\ (¬ (r71 ≠ (0 : Int)) -> (((r82 ≠ (0 : Int)) -> Q false) /\ (¬ (r82 ≠ (0 : Int)) -> (YL c69 x70 c80 x81 (fun r93 => (((!r93) = true) -> Q false) /\ ((!r93) = false -> (Jbm Pf Mf mf c33 x34 c56 x57 (fun q => match q with | (c96, x97, r98) => Jbm Pf Mf mf Cb b c56 x57 (fun q => match q with | (c107, x108, r109) => ((r98 ≠ (0 : Int)) -> Q false) /\ (¬ (r98 ≠ (0 : Int)) -> (((r109 ≠ (0 : Int)) -> Q false) /\ (¬ (r109 ≠ (0 : Int)) -> (Jbm Pf Mf mf Ca a c107 x108 (fun q => match q with | (c120, x121, r122) => Jas Pf Mf mf c33 x34 (fun q => match q with | (r131, r132) => Jas Pf Mf mf Ca a (fun q => match q with | (r134, r135) => Jas Pf Mf mf Cb b (fun q => match q with | (r137, r138) => ((r122 = (0 : Int)) -> (((r132 = (0 : Int)) -> (((r135 = (0 : Int)) -> (((r138 = (0 : Int)) -> (YL c96 x97 c120 x121 (fun r144 => ((r144 = true) -> (((r131 <= r134) -> (Q (decide (r131 <= r137)))) /\ (¬ (r131 <= r134) -> Q false))) /\ (r144 = false -> Q false)))) /\ (¬ (r138 = (0 : Int)) -> Q false))) /\ (¬ (r135 = (0 : Int)) -> Q false))) /\ (¬ (r132 = (0 : Int)) -> Q false))) /\ (¬ (r122 = (0 : Int)) -> Q false))))))))))))))))))))))))))))))))))))))
theorem Jr4 {w : World} {Q : Bool -> Prop} {Pf : Int} {Mf : Int} {mf : List Int} {Ca : Int} {a : List (List Int)} {Cb : Int} {b : List (List Int)} {Bf : Nat} {Af : Option Addr} {nf kf : Nat} (hf : Rd Bf w 1 Af nf kf (is mf)) {Aa : Option Addr} {na ka : Nat} (ha : Rl w Aa na ka a) {Ab : Option Addr} {nb kb : Nat} (hb : Rl w Ab nb kb b) (hv : Jjw Pf Mf mf Ca a Cb b Q) :
    Calls Try.prog 12 #[.agg #[.int .i64 Pf, .int .i64 Mf, .slice Af nf kf], .agg #[.int .i64 Ca, .slice Aa na ka], .agg #[.int .i64 Cb, .slice Ab nb kb]] w fun e w' => ∃ v Qr, e = .returned v /\ w.grownBy w' none /\ Rows w.heap.size none w' Qr /\ News w.heap.size Qr /\ ∃ (r0 : Bool), v = .bool r0 /\ Qr = [] /\ Q r0 := by
  have hnf := hf.ilen
  subst hnf
  have hna := ha.len
  subst hna
  obtain ⟨hsa, hHa⟩ := ha.heads
  have hnb := hb.len
  subst hnb
  obtain ⟨hsb, hHb⟩ := hb.heads
  refine Jp <| Jo (vs := [.agg #[.int .i64 Pf, .int .i64 Mf, .slice Af mf.length kf], .agg #[.int .i64 Ca, .slice Aa a.length ka], .agg #[.int .i64 Cb, .slice Ab b.length kb]]) [6] XF12 rfl rfl rfl rfl ?_
  have hS := Js w
  unfold Jjw at hv
  refine Jg 2 <| JF (z := 3) (cs := [.int .i64 Pf, .int .i64 Mf, .slice Af mf.length kf]) hS rfl rfl rfl rfl ?_
  intro g11 w12 hS
  refine JF (z := 2) (cs := [.int .i64 Ca, .slice Aa a.length ka]) hS rfl rfl rfl rfl ?_
  intro g13 w14 hS
  refine JF (z := 2) (cs := [.int .i64 Cb, .slice Ab b.length kb]) hS rfl rfl rfl rfl ?_
  intro g15 w16 hS
  refine Jc 2 <| Jg 3 <| SL.call hS (QQ  hv) Jel rfl Je5 rfl rfl ?_
  rintro _ _ w17 ⟨r18, rfl, rfl, hv⟩ hGw17 hS
  have hS := hS.n0
  refine Zh rfl rfl <| Je rfl rfl ?_
  rcases g19 : (!r18) with _ | _
  .have hv := hv.2 g19
   refine WL.take rfl <| Jk (cs := [.int .i64 Ca, .slice Aa a.length ka]) Jv JN rfl rfl (Jb (hS.own (i := 1) rfl)) rfl <| WL.take rfl <| SL.call hS (Jfg (RlH.rl (RlH.ext hHa hS.ext)) hv) XF16 rfl XN16 rfl rfl ?_
   rintro _ _ w22 ⟨r23, rfl, rfl, hv⟩ hGw22 hS
   have hS := hS.n0
   refine Jc 3 <| Je rfl rfl ?_
   rcases g24 : (!r23) with _ | _
   .have hv := hv.2 g24
    refine WL.take rfl <| Jk (cs := [.int .i64 Cb, .slice Ab b.length kb]) Jv JN rfl rfl (Jb (hS.own (i := 0) rfl)) rfl <| WL.take rfl <| SL.call hS (Jfg (RlH.rl (RlH.ext hHb hS.ext)) hv) XF16 rfl XN16 rfl rfl ?_
    rintro _ _ w27 ⟨r28, rfl, rfl, hv⟩ hGw27 hS
    have hS := hS.n0
    refine Jc 4 <| Jm rfl (fun c29 => ?_) (fun c29 => ?_)
    .have hv := hv.1 (c29)
     refine Jg 2 <| SL.call hS (QQ  hv) Jel rfl Je5 rfl rfl ?_
     rintro _ _ w30 ⟨r31, rfl, rfl, hv⟩ hGw30 hS
     have hS := hS.n0
     refine Jc 2 <| W.ret <| ⟨_, rfl, Fin.nil ?_⟩
     exact ⟨_, hS.ext, (hS.pick [] rfl).rows, Ji (hS.pick [] rfl).rows rfl, ⟨r31, rfl, rfl, hv⟩⟩
    have hv := hv.2 (c29)
    refine Jn <| Jg 2 <| Jk (cs := [.int .i64 Pf, .int .i64 Mf, .slice Af mf.length kf]) JT JY rfl rfl (Jb (hS.own (i := 2) rfl)) rfl <| Jk (cs := [.int .i64 Ca, .slice Aa a.length ka]) Jv JN rfl rfl (Jb (hS.own (i := 1) rfl)) rfl <| Jk (cs := [.int .i64 Cb, .slice Ab b.length kb]) Jv JN rfl rfl (Jb (hS.own (i := 0) rfl)) rfl <| SL.call hS (Jc8 (hS.ro hf) (RlH.rl (RlH.ext hHa hS.ext)) (RlH.rl (RlH.ext hHb hS.ext)) hv) Jqd rfl XN31 rfl rfl ?_
    rintro _ _ w32 ⟨c33, x34, r35, A36, k37, hs38, rfl, rfl, hv⟩ hGw32 hS
    have hS := hS.n1
    refine Jc 3 <| SL.alloc (cs := [.int .i64 0, .slice none 0 0]) hS Jv rfl rfl ?_
    intro g40 w41 hS
    refine Jw (cs := [.int .i64 c33, .slice A36 x34.length k37]) 0 hS rfl Jv rfl rfl rfl rfl rfl ?_
    intro w42 hS
    refine Jc 2 <| Jg 6 <| Jm rfl (fun c43 => ?_) (fun c43 => ?_)
    .have hv := hv.1 (of_decide_eq_true c43)
     refine Jg 4 <| W.ret <| ⟨_, rfl, Fin.nil ?_⟩
     exact ⟨_, hS.ext, (hS.pick [] rfl).rows, Ji (hS.pick [] rfl).rows rfl, ⟨true, rfl, rfl, hv⟩⟩
    have hv := hv.2 (of_decide_eq_false c43)
    refine Jn <| Jg 2 <| Jk (cs := [.int .i64 Pf, .int .i64 Mf, .slice Af mf.length kf]) JT JY rfl rfl (Jb (hS.own (i := 4) rfl)) rfl <| Jk (cs := [.int .i64 Ca, .slice Aa a.length ka]) Jv JN rfl rfl (Jb (hS.own (i := 3) rfl)) rfl <| SL.call hS (Jaa (hS.ro hf) (RlH.rl (RlH.ext hHa hS.ext)) hv) XF40 rfl XN40 rfl rfl ?_
    rintro _ _ w44 ⟨c45, x46, r47, A48, k49, hs50, rfl, rfl, hv⟩ hGw44 hS
    have hS := hS.n1
    refine Jc 3 <| SL.alloc (cs := [.int .i64 0, .slice none 0 0]) hS Jv rfl rfl ?_
    intro g52 w53 hS
    refine Jw (cs := [.int .i64 c45, .slice A48 x46.length k49]) 0 hS rfl Jv rfl rfl rfl rfl rfl ?_
    intro w54 hS
    refine Jc 2 <| Jg 2 <| Jk (cs := [.int .i64 Pf, .int .i64 Mf, .slice Af mf.length kf]) JT JY rfl rfl (Jb (hS.own (i := 6) rfl)) rfl <| Jk (cs := [.int .i64 Cb, .slice Ab b.length kb]) Jv JN rfl rfl (Jb (hS.own (i := 4) rfl)) rfl <| SL.call hS (Jaa (hS.ro hf) (RlH.rl (RlH.ext hHb hS.ext)) hv) XF40 rfl XN40 rfl rfl ?_
    rintro _ _ w55 ⟨c56, x57, r58, A59, k60, hs61, rfl, rfl, hv⟩ hGw55 hS
    have hS := hS.n1
    refine Jc 3 <| SL.alloc (cs := [.int .i64 0, .slice none 0 0]) hS Jv rfl rfl ?_
    intro g63 w64 hS
    refine Jw (cs := [.int .i64 c56, .slice A59 x57.length k60]) 0 hS rfl Jv rfl rfl rfl rfl rfl ?_
    intro w65 hS
    refine Jc 2 <| Jg 5 <| Je rfl rfl ?_
    by_cases g66 : r47 ≠ (0 : Int)
    .have hv := hv.1 g66
     rw [decide_eq_true g66]
     refine Jc 4 <| JV rfl <| Jg 4 <| W.ret <| ⟨_, rfl, Fin.nil ?_⟩
     exact ⟨_, hS.ext, (hS.pick [] rfl).rows, Ji (hS.pick [] rfl).rows rfl, ⟨false, rfl, rfl, hv⟩⟩
    have hv := hv.2 g66
    rw [decide_eq_false g66]
    refine Jc 6 <| Jm rfl (fun c67 => ?_) (fun c67 => ?_)
    .have hv := hv.1 (of_decide_eq_true c67)
     refine Jg 4 <| W.ret <| ⟨_, rfl, Fin.nil ?_⟩
     exact ⟨_, hS.ext, (hS.pick [] rfl).rows, Ji (hS.pick [] rfl).rows rfl, ⟨false, rfl, rfl, hv⟩⟩
    have hv := hv.2 (of_decide_eq_false c67)
    refine Jn <| Jg 2 <| Jk (cs := [.int .i64 Pf, .int .i64 Mf, .slice Af mf.length kf]) JT JY rfl rfl (Jb (hS.own (i := 8) rfl)) rfl <| Jk (cs := [.int .i64 c33, .slice A36 x34.length k37]) Jv JN rfl rfl (Jb (hS.own (i := 4) rfl)) rfl <| SL.call hS (Jaa (hS.ro hf) (hS.rl (i := 5) rfl) hv) XF40 rfl XN40 rfl rfl ?_
    rintro _ _ w68 ⟨c69, x70, r71, A72, k73, hs74, rfl, rfl, hv⟩ hGw68 hS
    have hS := hS.n1
    refine Jc 3 <| SL.alloc (cs := [.int .i64 0, .slice none 0 0]) hS Jv rfl rfl ?_
    intro g76 w77 hS
    refine Jw (cs := [.int .i64 c69, .slice A72 x70.length k73]) 0 hS rfl Jv rfl rfl rfl rfl rfl ?_
    intro w78 hS
    refine Jc 2 <| Jg 2 <| Jk (cs := [.int .i64 Pf, .int .i64 Mf, .slice Af mf.length kf]) JT JY rfl rfl (Jb (hS.own (i := 10) rfl)) rfl <| Jk (cs := [.int .i64 c56, .slice A59 x57.length k60]) Jv JN rfl rfl (Jb (hS.own (i := 2) rfl)) rfl <| Jk (cs := [.int .i64 c45, .slice A48 x46.length k49]) Jv JN rfl rfl (Jb (hS.own (i := 4) rfl)) rfl <| SL.call hS (Jc8 (hS.ro hf) (hS.rl (i := 3) rfl) (hS.rl (i := 5) rfl) hv) Jqd rfl XN31 rfl rfl ?_
    rintro _ _ w79 ⟨c80, x81, r82, A83, k84, hs85, rfl, rfl, hv⟩ hGw79 hS
    have hS := hS.n1
    refine Jc 3 <| SL.alloc (cs := [.int .i64 0, .slice none 0 0]) hS Jv rfl rfl ?_
    intro g87 w88 hS
    refine Jw (cs := [.int .i64 c80, .slice A83 x81.length k84]) 0 hS rfl Jv rfl rfl rfl rfl rfl ?_
    intro w89 hS
    refine Jc 2 <| Jg 5 <| Je rfl rfl ?_
    by_cases g90 : r71 ≠ (0 : Int)
    .have hv := hv.1 g90
     rw [decide_eq_true g90]
     refine Jc 10 <| JV rfl <| Jg 4 <| W.ret <| ⟨_, rfl, Fin.nil ?_⟩
     exact ⟨_, hS.ext, (hS.pick [] rfl).rows, Ji (hS.pick [] rfl).rows rfl, ⟨false, rfl, rfl, hv⟩⟩
    have hv := hv.2 g90
    rw [decide_eq_false g90]
    refine Jc 5 <| Je rfl rfl ?_
    by_cases g91 : r82 ≠ (0 : Int)
    .have hv := hv.1 g91
     rw [decide_eq_true g91]
     refine Jc 6 <| JV rfl <| Jg 4 <| W.ret <| ⟨_, rfl, Fin.nil ?_⟩
     exact ⟨_, hS.ext, (hS.pick [] rfl).rows, Ji (hS.pick [] rfl).rows rfl, ⟨false, rfl, rfl, hv⟩⟩
    have hv := hv.2 g91
    rw [decide_eq_false g91]
    refine WL.take rfl <| Jk (cs := [.int .i64 c69, .slice A72 x70.length k73]) Jv JN rfl rfl (Jb (hS.own (i := 2) rfl)) rfl <| WL.take rfl <| Jk (cs := [.int .i64 c80, .slice A83 x81.length k84]) Jv JN rfl rfl (Jb (hS.own (i := 0) rfl)) rfl <| WL.take rfl <| SL.call hS (Za (hS.rl (i := 3) rfl) (hS.rl (i := 1) rfl) hv) Jlc rfl Jnc rfl rfl ?_
    rintro _ _ w92 ⟨r93, rfl, rfl, hv⟩ hGw92 hS
    have hS := hS.n0
    refine Jc 4 <| Jm rfl (fun c94 => ?_) (fun c94 => ?_)
    .have hv := hv.1 (c94)
     refine Jg 4 <| W.ret <| ⟨_, rfl, Fin.nil ?_⟩
     exact ⟨_, hS.ext, (hS.pick [] rfl).rows, Ji (hS.pick [] rfl).rows rfl, ⟨false, rfl, rfl, hv⟩⟩
    have hv := hv.2 (c94)
    refine Jn <| Jg 2 <| Jk (cs := [.int .i64 Pf, .int .i64 Mf, .slice Af mf.length kf]) JT JY rfl rfl (Jb (hS.own (i := 12) rfl)) rfl <| Jk (cs := [.int .i64 c33, .slice A36 x34.length k37]) Jv JN rfl rfl (Jb (hS.own (i := 8) rfl)) rfl <| Jk (cs := [.int .i64 c56, .slice A59 x57.length k60]) Jv JN rfl rfl (Jb (hS.own (i := 4) rfl)) rfl <| SL.call hS (Jc8 (hS.ro hf) (hS.rl (i := 9) rfl) (hS.rl (i := 5) rfl) hv) Jqd rfl XN31 rfl rfl ?_
    rintro _ _ w95 ⟨c96, x97, r98, A99, k100, hs101, rfl, rfl, hv⟩ hGw95 hS
    have hS := hS.n1
    refine Jc 3 <| SL.alloc (cs := [.int .i64 0, .slice none 0 0]) hS Jv rfl rfl ?_
    intro g103 w104 hS
    refine Jw (cs := [.int .i64 c96, .slice A99 x97.length k100]) 0 hS rfl Jv rfl rfl rfl rfl rfl ?_
    intro w105 hS
    refine Jc 2 <| Jg 2 <| Jk (cs := [.int .i64 Pf, .int .i64 Mf, .slice Af mf.length kf]) JT JY rfl rfl (Jb (hS.own (i := 14) rfl)) rfl <| Jk (cs := [.int .i64 Cb, .slice Ab b.length kb]) Jv JN rfl rfl (Jb (hS.own (i := 12) rfl)) rfl <| Jk (cs := [.int .i64 c56, .slice A59 x57.length k60]) Jv JN rfl rfl (Jb (hS.own (i := 6) rfl)) rfl <| SL.call hS (Jc8 (hS.ro hf) (RlH.rl (RlH.ext hHb hS.ext)) (hS.rl (i := 7) rfl) hv) Jqd rfl XN31 rfl rfl ?_
    rintro _ _ w106 ⟨c107, x108, r109, A110, k111, hs112, rfl, rfl, hv⟩ hGw106 hS
    have hS := hS.n1
    refine Jc 3 <| SL.alloc (cs := [.int .i64 0, .slice none 0 0]) hS Jv rfl rfl ?_
    intro g114 w115 hS
    refine Jw (cs := [.int .i64 c107, .slice A110 x108.length k111]) 0 hS rfl Jv rfl rfl rfl rfl rfl ?_
    intro w116 hS
    refine Jc 2 <| Jg 5 <| Je rfl rfl ?_
    by_cases g117 : r98 ≠ (0 : Int)
    .have hv := hv.1 g117
     rw [decide_eq_true g117]
     refine Jc 4 <| JV rfl <| Jg 4 <| W.ret <| ⟨_, rfl, Fin.nil ?_⟩
     exact ⟨_, hS.ext, (hS.pick [] rfl).rows, Ji (hS.pick [] rfl).rows rfl, ⟨false, rfl, rfl, hv⟩⟩
    have hv := hv.2 g117
    rw [decide_eq_false g117]
    refine Jc 6 <| Jm rfl (fun c118 => ?_) (fun c118 => ?_)
    .have hv := hv.1 (of_decide_eq_true c118)
     refine Jg 4 <| W.ret <| ⟨_, rfl, Fin.nil ?_⟩
     exact ⟨_, hS.ext, (hS.pick [] rfl).rows, Ji (hS.pick [] rfl).rows rfl, ⟨false, rfl, rfl, hv⟩⟩
    have hv := hv.2 (of_decide_eq_false c118)
    refine Jn <| Jg 2 <| Jk (cs := [.int .i64 Pf, .int .i64 Mf, .slice Af mf.length kf]) JT JY rfl rfl (Jb (hS.own (i := 16) rfl)) rfl <| Jk (cs := [.int .i64 Ca, .slice Aa a.length ka]) Jv JN rfl rfl (Jb (hS.own (i := 15) rfl)) rfl <| Jk (cs := [.int .i64 c107, .slice A110 x108.length k111]) Jv JN rfl rfl (Jb (hS.own (i := 0) rfl)) rfl <| SL.call hS (Jc8 (hS.ro hf) (RlH.rl (RlH.ext hHa hS.ext)) (hS.rl (i := 1) rfl) hv) Jqd rfl XN31 rfl rfl ?_
    rintro _ _ w119 ⟨c120, x121, r122, A123, k124, hs125, rfl, rfl, hv⟩ hGw119 hS
    have hS := hS.n1
    refine Jc 3 <| SL.alloc (cs := [.int .i64 0, .slice none 0 0]) hS Jv rfl rfl ?_
    intro g127 w128 hS
    refine Jw (cs := [.int .i64 c120, .slice A123 x121.length k124]) 0 hS rfl Jv rfl rfl rfl rfl rfl ?_
    intro w129 hS
    refine Jc 2 <| Jg 2 <| Jk (cs := [.int .i64 Pf, .int .i64 Mf, .slice Af mf.length kf]) JT JY rfl rfl (Jb (hS.own (i := 18) rfl)) rfl <| Jk (cs := [.int .i64 c33, .slice A36 x34.length k37]) Jv JN rfl rfl (Jb (hS.own (i := 14) rfl)) rfl <| SL.call hS (Jbu (hS.ro hf) (hS.rl (i := 15) rfl) hv) Jnd rfl Jqa rfl rfl ?_
    rintro _ _ w130 ⟨r131, r132, rfl, rfl, hv⟩ hGw130 hS
    have hS := hS.n0
    refine Jc 6 <| Jg 2 <| Jk (cs := [.int .i64 Pf, .int .i64 Mf, .slice Af mf.length kf]) JT JY rfl rfl (Jb (hS.own (i := 18) rfl)) rfl <| Jk (cs := [.int .i64 Ca, .slice Aa a.length ka]) Jv JN rfl rfl (Jb (hS.own (i := 17) rfl)) rfl <| SL.call hS (Jbu (hS.ro hf) (RlH.rl (RlH.ext hHa hS.ext)) hv) Jnd rfl Jqa rfl rfl ?_
    rintro _ _ w133 ⟨r134, r135, rfl, rfl, hv⟩ hGw133 hS
    have hS := hS.n0
    refine Jc 6 <| Jg 2 <| Jk (cs := [.int .i64 Pf, .int .i64 Mf, .slice Af mf.length kf]) JT JY rfl rfl (Jb (hS.own (i := 18) rfl)) rfl <| Jk (cs := [.int .i64 Cb, .slice Ab b.length kb]) Jv JN rfl rfl (Jb (hS.own (i := 16) rfl)) rfl <| SL.call hS (Jbu (hS.ro hf) (RlH.rl (RlH.ext hHb hS.ext)) hv) Jnd rfl Jqa rfl rfl ?_
    rintro _ _ w136 ⟨r137, r138, rfl, rfl, hv⟩ hGw136 hS
    have hS := hS.n0
    refine Jc 6 <| Jg 4 <| Je rfl rfl ?_
    by_cases g139 : r122 = (0 : Int)
    .have hv := hv.1 g139
     rw [decide_eq_true g139]
     refine Jc 5 <| Je rfl rfl ?_
     by_cases g140 : r132 = (0 : Int)
     .have hv := hv.1 g140
      rw [decide_eq_true g140]
      refine Jc 5 <| Je rfl rfl ?_
      by_cases g141 : r135 = (0 : Int)
      .have hv := hv.1 g141
       rw [decide_eq_true g141]
       refine Jc 5 <| Je rfl rfl ?_
       by_cases g142 : r138 = (0 : Int)
       .have hv := hv.1 g142
        rw [decide_eq_true g142]
        refine WL.take rfl <| Jk (cs := [.int .i64 c96, .slice A99 x97.length k100]) Jv JN rfl rfl (Jb (hS.own (i := 4) rfl)) rfl <| WL.take rfl <| Jk (cs := [.int .i64 c120, .slice A123 x121.length k124]) Jv JN rfl rfl (Jb (hS.own (i := 0) rfl)) rfl <| WL.take rfl <| SL.call hS (Za (hS.rl (i := 5) rfl) (hS.rl (i := 1) rfl) hv) Jlc rfl Jnc rfl rfl ?_
        rintro _ _ w143 ⟨r144, rfl, rfl, hv⟩ hGw143 hS
        have hS := hS.n0
        refine WL.pick rfl rfl rfl <| Je rfl rfl ?_
        cases g145 : r144
        .have hv := hv.2 g145
         refine Jc 11 <| W.ret <| ⟨_, rfl, Fin.nil ?_⟩
         exact ⟨_, hS.ext, (hS.pick [] rfl).rows, Ji (hS.pick [] rfl).rows rfl, ⟨false, rfl, rfl, hv⟩⟩
        have hv := hv.1 g145
        refine Jc 7 <| Je rfl rfl ?_
        by_cases g146 : r131 <= r134
        .have hv := hv.1 g146
         rw [decide_eq_true g146]
         refine Jc 9 <| W.ret <| ⟨_, rfl, Fin.nil ?_⟩
         exact ⟨_, hS.ext, (hS.pick [] rfl).rows, Ji (hS.pick [] rfl).rows rfl, ⟨(decide (r131 <= r137)), rfl, rfl, hv⟩⟩
        have hv := hv.2 g146
        rw [decide_eq_false g146]
        refine Jc 6 <| W.ret <| ⟨_, rfl, Fin.nil ?_⟩
        exact ⟨_, hS.ext, (hS.pick [] rfl).rows, Ji (hS.pick [] rfl).rows rfl, ⟨false, rfl, rfl, hv⟩⟩
       have hv := hv.2 g142
       rw [decide_eq_false g142]
       refine Jc 16 <| W.ret <| ⟨_, rfl, Fin.nil ?_⟩
       exact ⟨_, hS.ext, (hS.pick [] rfl).rows, Ji (hS.pick [] rfl).rows rfl, ⟨false, rfl, rfl, hv⟩⟩
      have hv := hv.2 g141
      rw [decide_eq_false g141]
      refine Jc 20 <| W.ret <| ⟨_, rfl, Fin.nil ?_⟩
      exact ⟨_, hS.ext, (hS.pick [] rfl).rows, Ji (hS.pick [] rfl).rows rfl, ⟨false, rfl, rfl, hv⟩⟩
     have hv := hv.2 g140
     rw [decide_eq_false g140]
     refine Jc 24 <| W.ret <| ⟨_, rfl, Fin.nil ?_⟩
     exact ⟨_, hS.ext, (hS.pick [] rfl).rows, Ji (hS.pick [] rfl).rows rfl, ⟨false, rfl, rfl, hv⟩⟩
    have hv := hv.2 g139
    rw [decide_eq_false g139]
    refine Jc 28 <| W.ret <| ⟨_, rfl, Fin.nil ?_⟩
    exact ⟨_, hS.ext, (hS.pick [] rfl).rows, Ji (hS.pick [] rfl).rows rfl, ⟨false, rfl, rfl, hv⟩⟩
   have hv := hv.1 g24
   refine Jc 5 <| JV rfl <| Jg 2 <| SL.call hS (QQ  hv) Jel rfl Je5 rfl rfl ?_
   rintro _ _ w25 ⟨r26, rfl, rfl, hv⟩ hGw25 hS
   have hS := hS.n0
   refine Jc 2 <| W.ret <| ⟨_, rfl, Fin.nil ?_⟩
   exact ⟨_, hS.ext, (hS.pick [] rfl).rows, Ji (hS.pick [] rfl).rows rfl, ⟨r26, rfl, rfl, hv⟩⟩
  have hv := hv.1 g19
  refine Jc 10 <| JV rfl <| Jg 2 <| SL.call hS (QQ  hv) Jel rfl Je5 rfl rfl ?_
  rintro _ _ w20 ⟨r21, rfl, rfl, hv⟩ hGw20 hS
  have hS := hS.n0
  refine Jc 2 <| W.ret <| ⟨_, rfl, Fin.nil ?_⟩
  exact ⟨_, hS.ext, (hS.pick [] rfl).rows, Ji (hS.pick [] rfl).rows rfl, ⟨r21, rfl, rfl, hv⟩⟩
end Go.Proofs.Ytiboieijhehjnaa
set_option linter.unusedVariables false
set_option linter.unusedSimpArgs false
namespace Go.Proofs.Ytiboieijhehjnaa
section
variable {F : GFv} {p m v g : Nat} {P M : Int} {mf : List Int} {X Y : List (List Int)} {C : Int}
theorem Jkd {C' : Int} {X' : List (List Int)} : Jgg P M mf [(C, X), (C', X')] = if mck P M mf C X = 0 then mck P M mf C' X' else mck P M mf C X := by
  show (if mck P M mf C X = 0 then Jgg P M mf [(C', X')] else mck P M mf C X) = _
  rw [Jgf]
end
end Go.Proofs.Ytiboieijhehjnaa
set_option linter.unusedVariables false
set_option linter.unusedSimpArgs false
namespace Go.Proofs.Ytiboieijhehjnaa
section
variable {p m v g : Nat} {P M : Int} {mf : List Int} {X Y : List (List Int)} {C : Int} {w : Nat}
theorem Jsv (hF : FV P M mf p m v) {x : List Int} {n c : Nat} {Z : List (List Int)} (hc : c < n) : ∀ k, en p m (cmb p m v x n Z k) c = fs p m (fun i => Ju p m (dv p v) (inE (p ^ m) (vo x i)) (en p m (row Z i) c)) k
  | 0 => by
    show en p m (List.replicate n 0) c = 0
    exact YV hF (by have := hF.ring.q2; omega) (Z3 n c)
  | k + 1 => by
    rw [Jbh, Jg1 hF (by rw [Zz]; exact hc), Jsv hF hc k]; rfl
theorem Joj (hF : FV P M mf p m v) {x : List Int} {n : Nat} {Z : List (List Int)} : ∀ k, Elr p m (cmb p m v x n Z k)
  | 0 => Jjd fun t ht => by
    have : vo (cmb p m v x n Z 0) t = 0 := Z3 n t
    rw [this]
    exact Jco (q := 0) (by have := hF.ring.q2; omega)
  | k + 1 => by rw [Jbh]; exact Jjm (by have := hF.p2; omega) (Joj hF k)
theorem Jsz (hF : FV P M mf p m v) (he : Els p m X) : Els p m (J9 p m v C X) := fun r hr => ZL (S := ⟨X, List.replicate X.length [], [], 1⟩) (by have := hF.p2; omega) he C.toNat r (List.mem_of_mem_take hr)
end
end Go.Proofs.Ytiboieijhehjnaa
set_option linter.unusedVariables false
set_option linter.unusedSimpArgs false
namespace Go.Proofs.Ytiboieijhehjnaa
section
variable {p m v : Nat} {P M : Int} {mf : List Int} {X Y : List (List Int)} {C D : Int} {w wy : Nat}
/-! ### linear maps and combinations of rows -/
theorem Jr9 (hF : FV P M mf p m v) {f : (Nat -> Nat) -> Nat} (L : Lin p m v w f) {a : Nat -> Nat} (ha : ∀ c, c < w -> a c = 0) : f a = 0 := by
  have hq : 0 < p ^ m := by have := hF.ring.q2; omega
  have h := L.ml (a := fun _ => 0) (x := 0) (fun _ => hq) hq
  have e : f (fun _ => Ju p m (dv p v) 0 0) = f a := L.cg fun c hc => by rw [ha c hc, hF.ring.M0 hq]
  rw [<- e, h, hF.ring.Mc hq (L.lt _), hF.ring.M0 (L.lt _)]
theorem Ji3 (hF : FV P M mf p m v) {f : (Nat -> Nat) -> Nat} (L : Lin p m v w f) (x : List Int) (B : List (List Int)) : ∀ k, f (en p m (cmb p m v x w B k)) = fs p m (fun i => Ju p m (dv p v) (inE (p ^ m) (vo x i)) (f (en p m (row B i)))) k
  | 0 => Jr9 hF L fun c hc => by
    show inE (p ^ m) (vo (List.replicate w 0) c) = 0
    rw [Z3]; exact Ql (x := 0) (by have := hF.ring.q2; omega)
  | k + 1 => by
    rw [Jbh, L.adx hF (Zz x w k), Ji3 hF L x B k]; rfl
theorem QK (A B : List (List Int)) : (mm p m v w A B).length = A.length := by simp [mm]
theorem Jci {A B : List (List Int)} {t : Nat} (h : t < A.length) : row (mm p m v w A B) t = cmb p m v (row A t) w B B.length := Z8 h
theorem Ja7 {A B : List (List Int)} (hA : A.length <= 256) (hs : shp D B) : shp D (mm p m v D.toNat A B) := by
  obtain ⟨h1, h2, h3⟩ := QW hs
  refine ⟨hs.1, hs.2.1, by rw [QK]; exact hA, fun r hr => ?_⟩
  obtain ⟨t, _, rfl⟩ := List.mem_map.1 hr
  rw [Zz]; exact h3
theorem Ja8 (hF : FV P M mf p m v) (A B : List (List Int)) : Els p m (mm p m v w A B) := fun r hr => by
  obtain ⟨t, _, rfl⟩ := List.mem_map.1 hr
  exact Joj hF _
theorem Jh3 (hF : FV P M mf p m v) {A B : List (List Int)} {t c : Nat} (ht : t < A.length) (hc : c < w) : en p m (row (mm p m v w A B) t) c = fs p m (fun i => Ju p m (dv p v) (en p m (row A t) i) (en p m (row B i) c)) B.length := by
  rw [Jci ht, Jsv hF hc]; rfl
/-- matrices of elements with the same entries are equal -/
theorem Job {A B : List (List Int)} (hl : A.length = B.length) (ha : Els p m A) (hb : Els p m B) (hw : ∀ t, t < A.length -> (row A t).length = w /\ (row B t).length = w) (h : ∀ t c, t < A.length -> c < w -> en p m (row A t) c = en p m (row B t) c) : A = B :=
  QX hl fun t ht => YS (by rw [(hw t ht).1, (hw t ht).2]) fun c hc => by
    rw [(hw t ht).1] at hc
    have e := h t c ht hc
    have e1 := Jcn (Jbe (Qa ha t) (t := c) (by rw [(hw t ht).1]; exact hc))
    have e2 := Jcn (Jbe (Qa hb t) (t := c) (by rw [(hw t ht).2]; exact hc))
    unfold en at e
    rw [<- e1, <- e2, e]
/-- the transpose -/
def tr (n : Nat) (A : List (List Int)) : List (List Int) := (List.range n).map fun c => (List.range A.length).map fun t => vo (row A t) c
theorem Yj (n : Nat) (A : List (List Int)) : (tr n A).length = n := by simp [tr]
theorem Jrr {n c : Nat} {A : List (List Int)} (h : c < n) : row (tr n A) c = (List.range A.length).map fun t => vo (row A t) c := Z8 h
theorem Jf6 {n c : Nat} {A : List (List Int)} (h : c < n) : (row (tr n A) c).length = A.length := by rw [Jrr h]; simp
theorem tr_at {n c t : Nat} {A : List (List Int)} (h : c < n) (ht : t < A.length) : vo (row (tr n A) c) t = vo (row A t) c := by rw [Jrr h]; exact Jfy ht
theorem Jq8 {n c t : Nat} {A : List (List Int)} (h : c < n) (ht : t < A.length) : en p m (row (tr n A) c) t = en p m (row A t) c := by unfold en; rw [tr_at h ht]
theorem Jlu (hs : shp C X) : shp (X.length : Int) (tr C.toNat X) := by
  obtain ⟨h1, h2, h3⟩ := QW hs
  refine ⟨by omega, by omega, by rw [Yj]; exact h2, fun r hr => ?_⟩
  obtain ⟨c, _, rfl⟩ := List.mem_map.1 hr
  simp
theorem Jlv (hs : shp C X) (he : Els p m X) : Els p m (tr C.toNat X) := fun r hr => by
  obtain ⟨c, hc, rfl⟩ := List.mem_map.1 hr
  have hc := List.mem_range.1 hc
  intro x hx
  obtain ⟨t, ht, rfl⟩ := List.mem_map.1 hx
  have ht := List.mem_range.1 ht
  exact Jbe (Qa he t) (by rw [Q6 hs ht]; exact hc)
theorem Ju8 (hF : FV P M mf p m v) {A : Nat -> Nat -> Nat} {a b : Nat -> Nat} (ha : ∀ i, a i < p ^ m) (hb : ∀ i, b i < p ^ m) (hA : ∀ i j, A i j < p ^ m) (n r : Nat) :
    fs p m (fun c => Ju p m (dv p v) (fs p m (fun i => Ju p m (dv p v) (a i) (A i c)) r) (b c)) n = fs p m (fun i => Ju p m (dv p v) (a i) (fs p m (fun c => Ju p m (dv p v) (A i c) (b c)) n)) r := by
  have R := hF.ring
  have h := Jja hF (u := b) (A := A) (R' := a) hb hA ha n r
  have e1 : fs p m (fun c => Ju p m (dv p v) (fs p m (fun i => Ju p m (dv p v) (a i) (A i c)) r) (b c)) n = fs p m (fun j => Ju p m (dv p v) (b j) (fs p m (fun i => Ju p m (dv p v) (A i j) (a i)) r)) n := Yb _ fun c _ => by
    rw [R.Mc (YD hF _ _) (hb c), Yb r fun i _ => R.Mc (ha i) (hA i c)]
  rw [e1, h]
  exact Yb _ fun i _ => by rw [Yb n fun c _ => R.Mc (hb c) (hA i c)]
/-! ### ranks -/
/-- A linear map by the entries at given places. -/
theorem Jrw (hF : FV P M mf p m v) {u : Nat -> Nat} (hu : ∀ c, u c < p ^ m) {q : Nat -> Nat} {r : Nat} (hq : ∀ k, k < r -> q k < w) : Lin p m v w (fun a => dt p m v r u (fun k => a (q k))) where
  lt a := (Jbg (w := r) hF hu).lt _
  cg h := (Jbg (w := r) hF hu).cg fun k hk => h _ (hq k hk)
  ad ha hb hx := (Jbg (w := r) hF hu).ad (fun k => ha _) (fun k => hb _) hx
  ml ha hx := (Jbg (w := r) hF hu).ml (fun k => ha _) hx
theorem Jny (hF : FV P M mf p m v) {A B : List (List Int)} (hA : shp C A) (hB : shp C B) (eA : Els p m A) (eB : Els p m B) (h : ∀ f, Lin p m v C.toNat f -> Ann p m f B -> Ann p m f A) : (JL p m v C A).length <= (JL p m v C B).length := by
  rcases Nat.lt_or_ge (JL p m v C B).length (JL p m v C A).length with hlt | hge
  . exfalso
    have R := hF.ring
    have q1 : 1 < p ^ m := R.q2
    have hq : 0 < p ^ m := by omega
    have pA := Q2 (p := p) (m := m) (v := v) C A
    have lA := Yc (p := p) (m := m) (v := v) hA
    have lB := Yc (p := p) (m := m) (v := v) hB
    have nA := QT (p := p) (m := m) (v := v) hA
    have lA2 := Yf hA
    have eRB : Els p m (J9 p m v C B) := Jsz hF eB
    have sRB := Jg5 (p := p) (m := m) (v := v) hB
    generalize hrA : (JL p m v C A).length = r at *
    let q : Nat -> Nat := fun k => (vo (JL p m v C A) k).toNat
    have hqw : ∀ k, k < r -> q k < C.toNat := fun k hk => by have := pA.1 k (by omega); show (vo (JL p m v C A) k).toNat < _; omega
    -- the canonical rows of B at the pivots of A
    let N : List (List Int) := (List.range (J9 p m v C B).length).map fun i => (List.range r).map fun k => vo (row (J9 p m v C B) i) (q k)
    have hNl : N.length = (J9 p m v C B).length := by simp [N]
    have hNrow : ∀ i, i < (J9 p m v C B).length -> row N i = (List.range r).map fun k => vo (row (J9 p m v C B) i) (q k) := fun i hi => Z8 hi
    have hNs : shp (r : Int) N := by
      refine ⟨by omega, by omega, by rw [hNl]; have := Yf sRB; omega, fun z hz => ?_⟩
      obtain ⟨i, _, rfl⟩ := List.mem_map.1 hz
      simp
    have hNe : Els p m N := fun z hz => by
      obtain ⟨i, hi, rfl⟩ := List.mem_map.1 hz
      have hi := List.mem_range.1 hi
      intro y hy
      obtain ⟨k, hk, rfl⟩ := List.mem_map.1 hy
      have hk := List.mem_range.1 hk
      exact Jbe (Qa eRB i) (by rw [Q6 sRB hi]; exact hqw k hk)
    have hNp := QT (p := p) (m := m) (v := v) hNs
    have hNa := Q2 (p := p) (m := m) (v := v) (r : Int) N
    have hbf := Jg7 (p := p) (m := m) (J9 p m v (r : Int) N) hNa
    obtain ⟨fc, hfc, _⟩ := Jbk (p := p) (m := m) (n := ((r : Int)).toNat) (J9 p m v (r : Int) N) (JL p m v (r : Int) N) ((r : Int)).toNat
    have h0 := hfc 0 (by omega)
    generalize fc 0 = t at h0
    obtain ⟨ht, hnp, _⟩ := h0
    rw [Int.toNat_natCast] at ht
    have hfree : ∀ i, i < (JL p m v (r : Int) N).length -> (vo (JL p m v (r : Int) N) i).toNat ≠ t := fun i hi e => by
      have h1 := Jgu hnp i hi
      have h2 := hNa.1 i hi
      omega
    have hu := Jio hF hNs hNe (t := t) (by omega) hfree
    have hut := Jnv (p := p) (m := m) (n := ((r : Int)).toNat) (R := J9 p m v (r : Int) N) (pv := JL p m v (r : Int) N) (t := t) (by omega) (JL p m v (r : Int) N).length hfree
    rw [Int.toNat_natCast] at hu hut
    generalize YM p m r (J9 p m v (r : Int) N) (JL p m v (r : Int) N) t (JL p m v (r : Int) N).length = s at *
    have hL := Jrw (w := C.toNat) hF (u := en p m s) (fun c => Qm hF _ c) (q := q) (r := r) hqw
    have hB0 : Ann p m (fun a => dt p m v r (en p m s) (fun k => a (q k))) (J9 p m v C B) := fun i hi => by
      have h1 := hu i (by omega)
      rw [<- h1]
      refine Yb _ fun k hk => ?_
      show Ju p m (dv p v) (en p m s k) (inE (p ^ m) (vo (row (J9 p m v C B) i) (q k))) = Ju p m (dv p v) (en p m s k) (inE (p ^ m) (vo (row N i) k))
      rw [hNrow i hi, Jfy hk]
    have hA0 := (Jdj hF hA eA hL).2 (h _ hL ((Jdj hF hB eB hL).1 hB0))
    have h1 := hA0 t (by omega)
    have h2 : dt p m v r (en p m s) (fun k => en p m (row (J9 p m v C A) t) (q k)) = Ju p m (dv p v) (en p m s t) (en p m (row (J9 p m v C A) t) (q t)) := Jed hF (f := fun k => Ju p m (dv p v) (en p m s k) (en p m (row (J9 p m v C A) t) (q k))) (R.Ml _ _) r ht fun k hk hne => by
      have h3 := Jg4 hF hA eA (i := k) (t := t) (by omega) (by omega)
      rw [if_neg (fun e => hne e.symm)] at h3
      show Ju p m (dv p v) (en p m s k) (en p m (row (J9 p m v C A) t) (q k)) = 0
      rw [show en p m (row (J9 p m v C A) t) (q k) = 0 from YV hF (z := 0) hq h3, R.M0 (Qm hF _ _)]
    have h3 := Jg4 hF hA eA (i := t) (t := t) (by omega) (by omega)
    rw [if_pos rfl] at h3
    have h4 : en p m (row (J9 p m v C A) t) (q t) = 1 := YV hF (z := 1) q1 h3
    have h5 : en p m s t = 1 := YV hF (z := 1) q1 hut
    rw [h4, h5, R.M1 q1] at h2
    have h6 : dt p m v r (en p m s) (fun k => en p m (row (J9 p m v C A) t) (q k)) = 0 := h1
    omega
  . exact hge
/-- A product has at most the rank of its second factor. -/
theorem Jl6 (hF : FV P M mf p m v) {A B : List (List Int)} (hAl : A.length <= 256) (hB : shp D B) (eB : Els p m B) : (JL p m v D (mm p m v D.toNat A B)).length <= (JL p m v D B).length :=
  Jny hF (Ja7 hAl hB) hB (Ja8 hF _ _) eB fun f L hf t ht => by
    rw [QK] at ht
    rw [Jci ht, Ji3 hF L]
    exact Y0 hF _ fun i hi => by
      show Ju p m (dv p v) _ _ = 0
      rw [hf i hi, hF.ring.M0 (J6 (by have := hF.ring.q2; omega) _)]
/-- A product has at most the rank of its first factor. -/
theorem Jo7 (hF : FV P M mf p m v) {A B : List (List Int)} (hA : shp C A) (eA : Els p m A) (hB : shp D B) (eB : Els p m B) (hC : C = (B.length : Int)) : (JL p m v D (mm p m v D.toNat A B)).length <= (JL p m v C A).length := by
  have R := hF.ring
  have hq : 0 < p ^ m := by have := R.q2; omega
  have lA := Yc (p := p) (m := m) (v := v) hA
  have sR := Jg5 (p := p) (m := m) (v := v) hA
  have hCn : C.toNat = B.length := by omega
  have h1 : (JL p m v D (mm p m v D.toNat A B)).length <= (JL p m v D (mm p m v D.toNat (J9 p m v C A) B)).length := by
    refine Jny hF (Ja7 (Yf hA) hB) (Ja7 (Yf sR) hB) (Ja8 hF _ _) (Ja8 hF _ _) fun f L hf => ?_
    have hL := Jbg (w := C.toNat) hF (u := fun i => f (en p m (row B i))) (fun i => L.lt _)
    have key : ∀ Z : List (List Int), ∀ t, t < Z.length -> f (en p m (row (mm p m v D.toNat Z B) t)) = dt p m v C.toNat (fun i => f (en p m (row B i))) (en p m (row Z t)) := fun Z t ht => by
      rw [Jci ht, Ji3 hF L, hCn]
      exact Yb _ fun i _ => R.Mc (J6 hq _) (L.lt _)
    have h2 : Ann p m (dt p m v C.toNat (fun i => f (en p m (row B i)))) (J9 p m v C A) := fun t ht => by rw [<- key _ t ht]; exact hf t (by rw [QK]; exact ht)
    have h3 := (Jdj hF hA eA hL).1 h2
    intro t ht
    rw [QK] at ht
    rw [key _ t ht]; exact h3 t ht
  have h2 := QT (p := p) (m := m) (v := v) (Ja7 (p := p) (m := m) (v := v) (A := J9 p m v C A) (Yf sR) hB)
  rw [QK] at h2
  omega
end
end Go.Proofs.Ytiboieijhehjnaa
set_option linter.unusedVariables false
set_option linter.unusedSimpArgs false
namespace Go.Proofs.Ytiboieijhehjnaa
section
variable {P M : Int} {mf : List Int} {X : List (List Int)} {C : Int}
/-! ### products and transposes by the program -/
theorem Jfv {Ca Cb : Int} {A B : List (List Int)} {Q : Int × List (List Int) × Int -> Prop} (hb : ∀ e, e ≠ 0 -> (mck P M mf Ca A ≠ 0 ∨ mck P M mf Cb B ≠ 0 ∨ Ca ≠ (B.length : Int)) -> Q (0, [], e))
    (h : ∀ p m v, FV P M mf p m v -> shp Ca A -> Els p m A -> shp Cb B -> Els p m B -> Ca = (B.length : Int) -> Q (Cb, mm p m v Cb.toNat A B, 0)) : Jbm P M mf Ca A Cb B Q := by
  refine Jqq (ms := [(Ca, A), (Cb, B)]) (by simp) (fun hn _ => hb 1 (by decide) (.inl (by rw [Jgo hn]; decide))) (fun F p m v g K hF h0 => ?_) (fun hV hne _ => hb _ hne ?_)
  . rw [Jkd] at h0
    have hA : mck P M mf Ca A = 0 := by
      by_cases e : mck P M mf Ca A = 0
      . exact e
      . rw [if_neg e] at h0; exact h0
    rw [if_pos hA] at h0
    obtain ⟨_, sA, eA⟩ := Ja9 hA
    obtain ⟨_, sB, eB⟩ := Ja9 h0
    have eA := (QR hF).1 eA
    have eB := (QR hF).1 eB
    obtain ⟨a1, a2, a3⟩ := QW sA
    refine ⟨fun hne => hb 10 (by decide) (.inr (.inr hne)), fun he => ?_⟩
    have hC : Ca = (B.length : Int) := Classical.not_not.1 he
    refine ⟨⟨by omega, by omega, by omega⟩, fun x z => ∃ t : Nat, z = t /\ t <= A.length /\ x.length = A.length /\ ∀ s, s < t -> row x s = row (mm p m v Cb.toNat A B) s, fun _ z => (A.length - z).toNat, ⟨0, rfl, Nat.zero_le _, by simp, fun s hs => absurd hs (Nat.not_lt_zero _)⟩, ?_⟩
    rintro x _ ⟨t, rfl, ht, hx, hv⟩
    dsimp only
    refine ⟨fun hlt => ⟨⟨by omega, by omega⟩, _, Jhs K sB (by show (row A t).length = _; rw [Q6 sA (by omega)]; omega) rfl, ⟨by omega, by omega⟩, Jz (by omega) (by omega), ⟨t + 1, by push_cast; rfl, by omega, by rw [Z5]; exact hx, fun s hs => ?_⟩, by omega⟩, fun hge => ?_⟩
    . show row (x.set t _) s = _
      rw [Qp]
      by_cases e : t = s
      . subst e; rw [if_pos ⟨rfl, by omega⟩, Jci (by omega)]; rfl
      . rw [if_neg (fun q => e q.1)]; exact hv s (by omega)
    . rw [show x = mm p m v Cb.toNat A B from QX (by rw [QK]; exact hx) fun i hi => hv i (by omega)]
      exact h p m v hF sA eA sB eB hC
  . rw [Jkd] at hne
    by_cases e : mck P M mf Ca A = 0
    . rw [if_pos e] at hne; exact .inr (.inl hne)
    . exact .inl e
theorem Jax {Q : Int × List (List Int) × Int -> Prop} (hb : mck P M mf C X ≠ 0 -> Q (0, [], mck P M mf C X))
    (h : ∀ p m v, FV P M mf p m v -> shp C X -> Els p m X -> mck P M mf C X = 0 -> Q ((X.length : Int), tr C.toNat X, 0)) : Yo P M mf C X Q := by
  refine Z2 (fun h0 _ => hb h0) fun F p m v g K hF hs he h0 => ?_
  have hfin := h p m v hF hs he h0
  obtain ⟨a1, a2, a3⟩ := QW hs
  generalize hn : C.toNat = n at *
  refine ⟨⟨by omega, by omega, by omega⟩, fun x z => ∃ c : Nat, z = c /\ c <= n /\ x.length = n /\ ∀ d, d < c -> row x d = row (tr n X) d, fun _ z => (n - z).toNat, ⟨0, rfl, Nat.zero_le _, by simp, fun d hd => absurd hd (Nat.not_lt_zero _)⟩, ?_⟩
  rintro x _ ⟨c, rfl, hc, hx, hv⟩
  dsimp only
  refine ⟨fun hlt => ?_, fun hge => ?_⟩
  . have hcn : c < n := by omega
    refine ⟨⟨by omega, by omega, by omega⟩, ⟨by omega, by omega⟩, fun y z => ∃ t : Nat, z = t /\ t <= X.length /\ y.length = n /\ (∀ d, d < c -> row y d = row (tr n X) d) /\ (row y c).length = X.length /\ ∀ s, s < t -> vo (row y c) s = vo (row X s) c, fun _ z => (X.length - z).toNat, ⟨0, rfl, Nat.zero_le _, by rw [Z5]; exact hx, fun d hd => ?_, ?_, fun s hs => absurd hs (Nat.not_lt_zero _)⟩, ?_⟩
    . show row (x.set c _) d = _
      rw [Qp, if_neg (fun q => by omega)]; exact hv d hd
    . show (row (x.set c _) c).length = _
      rw [Qp, if_pos ⟨rfl, by omega⟩]; simp
    rintro y _ ⟨t, rfl, ht, hy, h1, h2, h3⟩
    dsimp only
    refine ⟨fun hlt2 => ?_, fun hge2 => ⟨Jz (by omega) (by omega), ⟨c + 1, by push_cast; rfl, by omega, hy, fun d hd => ?_⟩, by omega⟩⟩
    . have htx : t < X.length := by omega
      have hrl : (row X t).length = n := by rw [Q6 hs htx]; exact hn
      refine ⟨⟨by omega, by omega⟩, ⟨by omega, by omega⟩, ⟨by omega, by show (c : Int) < ((row X t).length : Int); omega⟩, ⟨by omega, by show (t : Int) < ((row y c).length : Int); omega⟩, Jz (by omega) (by omega), ⟨t + 1, by push_cast; rfl, by omega, by rw [Z5]; exact hy, fun d hd => ?_, ?_, fun s hs' => ?_⟩, by omega⟩
      . show row (y.set c _) d = _
        rw [Qp, if_neg (fun q => by omega)]; exact h1 d hd
      . show (row (y.set c ((row y c).set t (vo (row X t) c))) c).length = _
        rw [Qp, if_pos ⟨rfl, by omega⟩, List.length_set]; exact h2
      . show vo (row (y.set c ((row y c).set t (vo (row X t) c))) c) s = _
        rw [Qp, if_pos ⟨rfl, by omega⟩, J7]
        by_cases e : t = s
        . subst e; rw [if_pos ⟨rfl, by omega⟩]
        . rw [if_neg (fun q => e q.1)]; exact h3 s (by omega)
    . by_cases e : d = c
      . subst e
        exact YS (by rw [h2, Jf6 hcn]) fun s hs' => by rw [h3 s (by omega), tr_at hcn (by omega)]
      . exact h1 d (by omega)
  . rw [show x = tr n X from QX (by rw [Yj]; exact hx) fun i hi => hv i (by omega)]
    exact hfin
end
theorem Jgt (P M : Int) (mf : List Int) (Ca : Int) (A : List (List Int)) (Cb : Int) (B : List (List Int)) : Jjw P M mf Ca A Cb B (fun b => b = true) := by
  refine YW ⟨fun h => absurd h (by decide), fun _ => Jig ⟨by omega, by omega⟩ (fun h1 h2 h3 => ⟨fun h => absurd h (by decide), fun _ => Jig ⟨by omega, by omega⟩ (fun g1 g2 g3 => ⟨fun h => absurd h (by decide), fun _ => ?_⟩) ⟨fun _ => YW rfl, fun h => absurd h (by decide)⟩⟩) ⟨fun _ => YW rfl, fun h => absurd h (by decide)⟩⟩
  refine Jfv (fun e he _ => ⟨fun _ => rfl, fun h => absurd he h⟩) fun p m v hF hA eA hB eB hC => ⟨fun h => absurd rfl h, fun _ => ?_⟩
  have R := hF.ring
  have hV : YE P M mf := ⟨p, m, v, hF⟩
  obtain ⟨a1, a2, a3⟩ := QW hA
  obtain ⟨b1, b2, b3⟩ := QW hB
  have ok : ∀ {C : Int} {X : List (List Int)}, shp C X -> Els p m X -> mck P M mf C X = 0 := fun hs he => Jgn hV hs ((QR hF).2 he)
  have sP := Ja7 (p := p) (m := m) (v := v) (A := A) a1 hB
  have eP := Ja8 (w := Cb.toNat) hF A B
  have sTA := Jlu hA
  have eTA := Jlv hA eA
  have sTB := Jlu hB
  have eTB := Jlv hB eB
  have nC : Ca.toNat = B.length := by omega
  refine Jax (fun h => absurd (ok hA eA) h) fun p' m' v' hF' _ _ _ => Jax (fun h => absurd (ok hB eB) h) fun p' m' v' hF' _ _ _ => ?_
  refine ⟨fun h => absurd rfl h, fun _ => ⟨fun h => absurd rfl h, fun _ => Jax (fun h => absurd (ok sP eP) h) fun p' m' v' hF' _ _ _ => ?_⟩⟩
  clear hF'
  refine Jfv (fun e _ hh => ?_) fun p' m' v' hF' _ _ _ _ _ => ?_
  . rcases hh with h | h | h
    . exact absurd (ok sTB eTB) h
    . exact absurd (ok sTA eTA) h
    . exact absurd (by rw [Yj]; omega) h
  obtain ⟨rfl, rfl, rfl⟩ := hF.uniq3 hF'
  refine ⟨fun h => absurd rfl h, fun _ => ⟨fun h => absurd rfl h, fun _ => ?_⟩⟩
  have e1 : ((mm p m v Cb.toNat A B).length : Int) = (A.length : Int) := by rw [QK]
  have e2 : tr Cb.toNat (mm p m v Cb.toNat A B) = mm p m v (A.length : Int).toNat (tr Cb.toNat B) (tr Ca.toNat A) := by
    have sQ := Jlu sP
    rw [Int.toNat_natCast]
    refine Job (w := A.length) (by rw [Yj, QK, Yj]) (Jlv sP eP) (Ja8 hF _ _) (fun t ht => ?_) fun t c ht hc => ?_
    . rw [Yj] at ht
      exact ⟨by rw [Jf6 ht, QK], by rw [Jci (by rw [Yj]; exact ht), Zz]⟩
    . rw [Yj] at ht
      rw [Jq8 ht (by rw [QK]; exact hc), Jh3 hF hc ht, Jh3 hF (by rw [Yj]; exact ht) hc, Yj, nC]
      refine Yb _ fun i hi => ?_
      rw [Jq8 ht hi, Jq8 hi hc, R.Mc (Qm hF _ _) (Qm hF _ _)]
  rw [e1, e2]
  have sR := Ja7 (p := p) (m := m) (v := v) (A := tr Cb.toNat B) (by rw [Yj]; exact b2) sTA
  refine Z1 (by have := Yf sR; omega) (Y9 sR) ⟨fun h => absurd h (by decide), fun _ => ?_⟩
  refine Jfv (fun e _ hh => ?_) fun p' m' v' hF' _ _ _ _ _ => ?_
  . rcases hh with h | h | h
    . exact absurd (ok sP eP) h
    . exact absurd (ok sTB eTB) h
    . exact absurd (by rw [Yj]; omega) h
  obtain ⟨rfl, rfl, rfl⟩ := hF.uniq3 hF'
  refine Jfv (fun e _ hh => ?_) fun p' m' v' hF' _ _ _ _ _ => ?_
  . rcases hh with h | h | h
    . exact absurd (ok hB eB) h
    . exact absurd (ok sTB eTB) h
    . exact absurd (by rw [Yj]; omega) h
  obtain ⟨rfl, rfl, rfl⟩ := hF.uniq3 hF'
  have sY := Ja7 (p := p) (m := m) (v := v) (A := B) b1 sTB
  have eY := Ja8 (w := (B.length : Int).toNat) hF B (tr Cb.toNat B)
  refine ⟨fun h => absurd rfl h, fun _ => ⟨fun h => absurd rfl h, fun _ => ?_⟩⟩
  refine Jfv (fun e _ hh => ?_) fun p' m' v' hF' _ _ _ _ _ => ?_
  . rcases hh with h | h | h
    . exact absurd (ok hA eA) h
    . exact absurd (ok sY eY) h
    . exact absurd (by rw [QK]; omega) h
  obtain ⟨rfl, rfl, rfl⟩ := hF.uniq3 hF'
  refine Jfw (fun h => absurd (ok sP eP) h) fun p' m' v' hF' _ _ _ => ?_
  obtain ⟨rfl, rfl, rfl⟩ := hF.uniq3 hF'
  refine Jfw (fun h => absurd (ok hA eA) h) fun p' m' v' hF' _ _ _ => ?_
  obtain ⟨rfl, rfl, rfl⟩ := hF.uniq3 hF'
  refine Jfw (fun h => absurd (ok hB eB) h) fun p' m' v' hF' _ _ _ => ?_
  obtain ⟨rfl, rfl, rfl⟩ := hF.uniq3 hF'
  have r1 := Jo7 hF hA eA hB eB hC
  have r2 := Jl6 hF (A := A) a1 hB eB
  refine ⟨fun _ => ⟨fun _ => ⟨fun _ => ⟨fun _ => ?_, fun h => absurd rfl h⟩, fun h => absurd rfl h⟩, fun h => absurd rfl h⟩, fun h => absurd rfl h⟩
  have e3 : mm p m v (B.length : Int).toNat (mm p m v Cb.toNat A B) (tr Cb.toNat B) = mm p m v (B.length : Int).toNat A (mm p m v (B.length : Int).toNat B (tr Cb.toNat B)) := by
    rw [Int.toNat_natCast]
    refine Job (w := B.length) (by rw [QK, QK, QK]) (Ja8 hF _ _) (Ja8 hF _ _) (fun t ht => ?_) fun t s ht hs => ?_
    . rw [QK, QK] at ht
      exact ⟨by rw [Jci (by rw [QK]; exact ht), Zz], by rw [Jci ht, Zz]⟩
    . rw [QK, QK] at ht
      rw [Jh3 hF (by rw [QK]; exact ht) hs, Jh3 hF ht hs, QK, Yj]
      have h := Ju8 hF (A := fun i c => en p m (row B i) c) (a := fun i => en p m (row A t) i) (b := fun c => en p m (row (tr Cb.toNat B) c) s) (fun i => Qm hF _ _) (fun c => Qm hF _ _) (fun i c => Qm hF _ _) Cb.toNat B.length
      refine Eq.trans (Yb _ fun c hc => ?_) (h.trans (Yb _ fun i hi => ?_))
      . rw [Jh3 hF ht hc]
      . rw [Jh3 hF hi hs, Yj]
  rw [e3]
  have sZ := Ja7 (p := p) (m := m) (v := v) (A := A) a1 sY
  refine Z1 (by have := Yf sZ; omega) (Y9 sZ) ⟨fun _ => ⟨fun _ => decide_eq_true (by omega), fun h => absurd (by omega) h⟩, fun h => absurd h (by decide)⟩
end Go.Proofs.Ytiboieijhehjnaa
