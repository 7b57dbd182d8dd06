/- What only this law leans on. -/
import Derived.Test.YtppkigdakobebaaGrsChecksG7
namespace Go.Proofs.Ytppkigdakobebaa
open Go.RowKit

section
variable {P : Program} {n : Nat} {ro : Option Nat} {df : List Deferred} {N : J2} {L : Fr} {w : World} {ops : Array Oper} {rest : List Oper}
variable {d : Nat} {ty : TypeId} {pos : String} {af : Array Edge}

theorem Jg8 {x : Operand} {k k' : IntKind} {a r : Int} {src dst : TypeId} {ds : TypeDesc} (hs : P.underlying src = some ds) (hd : P.underlying dst = some (.int k')) (hx : ev L x = some (.int k a)) (hr : k'.wrap a = r) (hn : Nat.blt d n = true) (h : WL P n ro df ops rest N ((d, .int k' r) :: L) w) :
    WL P n ro df ops (⟨some d, .convert src dst x, ty, pos, af, none⟩ :: rest) N L w :=
  WL.val rfl rfl hn (fun a ha => by simp [execOp, convert, ha.ev hx, run_underlying hs, run_underlying hd, Conv.intToInt, hr]) h
end
end Go.Proofs.Ytppkigdakobebaa
namespace Go.Proofs.Ytppkigdakobebaa
open Go.RowKit
theorem wu64m {n r : Int} (h : n % 18446744073709551616 = r) : IntKind.u64.wrap n = r := by
  simp [IntKind.wrap, IntKind.bits, IntKind.signed]; omega
section
variable {P : Program} {n : Nat} {ro : Option Nat} {df : List Deferred} {N : J2} {L : Fr} {w : World} {ops : Array Oper} {rest : List Oper}
variable {d : Nat} {ty : TypeId} {pos : String} {af : Array Edge}
end
section
variable {P : Program} {n : Nat} {ro : Option Nat} {df : List Deferred} {N : J2} {L : Fr} {w : World} {ops : Array Oper} {rest : List Oper}
variable {d : Nat} {ty : TypeId} {pos : String} {af : Array Edge}
end
end Go.Proofs.Ytppkigdakobebaa
set_option linter.unusedSimpArgs false
set_option linter.unusedVariables false
namespace Go.Proofs.Ytppkigdakobebaa
open Go.RowKit
section
variable {P : Program} {n : Nat} {ro : Option Nat} {df : List Deferred} {N : J2} {L : Fr} {w w0 : World} {ops : Array Oper} {rest : List Oper}
variable {d : Nat} {ty : TypeId} {pos : String} {af : Array Edge} {X : World -> Prop} {mr : Option Nat} {R : List Rw} {eI m c : Nat} {A : Option Addr} {hs : Hs} {ls : List (List Int)}
end
/-! ### parts of tuples -/
def exT : Nat -> Value -> Value
  | i, .tuple cs => cs.getD i undef
  | _, v => v
end Go.Proofs.Ytppkigdakobebaa
set_option linter.unusedVariables false
set_option linter.unusedSimpArgs false
namespace Go.Proofs.Ytppkigdakobebaa
open Go.RowKit
/-- of a tuple whose first part is a row -/
def vbT : Value -> World -> Nat -> Prop := fun v _ g => vb (exT 0 v) = some g
section
variable {P : Program} {n : Nat} {ro : Option Nat} {df : List Deferred} {N : J2} {L : Fr} {w w0 : World} {ops : Array Oper} {rest : List Oper}
variable {d : Nat} {ty : TypeId} {pos : String} {af : Array Edge} {X : World -> Prop} {mr : Option Nat} {R : List Rw} {eS eI m c : Nat} {A : Option Addr} {hs : Hs} {ls : List (List Int)}
end
end Go.Proofs.Ytppkigdakobebaa
set_option linter.unusedVariables false
namespace Go.Proofs.Ytppkigdakobebaa
open Go.RowKit
theorem Try.nm46 : (Try.f46.name == "runtime.NumGoroutine") = false := by kernel_rfl
theorem Try.nm90 : (Try.f90.name == "runtime.NumGoroutine") = false := by kernel_rfl
theorem Try.nm118 : (Try.f118.name == "runtime.NumGoroutine") = false := by kernel_rfl
end Go.Proofs.Ytppkigdakobebaa
namespace Go.Proofs.Ytppkigdakobebaa
open Go.RowKit
abbrev Jmn := Try.func118
abbrev XF14 := Try.func14
abbrev XF46 := Try.func46
abbrev XF90 := Try.func90
abbrev Jq5 := Try.nm118
abbrev XN46 := Try.nm46
abbrev XN90 := Try.nm90
abbrev XU68 := Try.underlying68
end Go.Proofs.Ytppkigdakobebaa
set_option linter.unusedSimpArgs false
set_option linter.unusedVariables false
set_option maxRecDepth 4000
set_option maxHeartbeats 4000000
namespace Go.Proofs.Ytppkigdakobebaa
open Go.RowKit
def YZ (Pf : Int) (Mf : Int) (mf : List Int) (p : List Int) (Q : List Int -> Prop) : Prop :=
  ∃ (I19 : Int -> Int -> Prop) (μ20 : Int -> Int -> Nat), I19 0 (0 : Int) /\ ∀ (z17 : Int) (z18 : Int), (I19 z17 z18 -> (((z18 < (p.length : Int)) -> (∃ J25 : Int -> Bool -> Prop, ((0 <= z18 /\ z18 < (p.length : Nat)) /\ (∃ (r33 : Int), Jem Pf Mf mf (gi p z18) (fun q => q = r33) /\ (((r33 ≠ 0) -> ((I64 (z18 + 1)) /\ (J25 (z18 + 1) (decide (r33 ≠ 0))))) /\ (¬ (r33 ≠ 0) -> (J25 z17 (decide (r33 ≠ 0))))))) /\ ∀ (z23 : Int) (b24 : Bool), (J25 z23 b24 -> ((I64 (z18 + 1)) /\ (I19 z23 (z18 + 1) /\ μ20 z23 (z18 + 1) < μ20 z17 z18))))) /\ (¬ (z18 < (p.length : Int)) -> ((0 <= z17 /\ z17 * 8 <= 281474976710656 /\ z17 <= 281474976710656) /\ (∃ (I53 : List Int -> Int -> Prop) (μ54 : List Int -> Int -> Nat), I53 (List.replicate z17.toNat (0 : Int)) (0 : Int) /\ ∀ (x51 : List Int) (z52 : Int), (I53 x51 z52 -> (((z52 < z17) -> ((0 <= z52 /\ z52 < (p.length : Nat)) /\ (∃ (r66 : Int), Jem Pf Mf mf (gi p z52) (fun q => q = r66) /\ ((0 <= z52 /\ z52 < (z17.toNat : Nat)) /\ ((I64 (z52 + 1)) /\ (I53 (si x51 z52 r66) (z52 + 1) /\ μ54 (si x51 z52 r66) (z52 + 1) < μ54 x51 z52)))))) /\ (¬ (z52 < z17) -> Q x51))))))))
theorem Jbk {w : World} {Q : List Int -> Prop} {Pf : Int} {Mf : Int} {mf : List Int} {p : List Int} {Bf : Nat} {Af : Option Addr} {nf kf : Nat} (hf : Rd Bf w 1 Af nf kf (is mf)) {Bp : Nat} {Ap : Option Addr} {np kp : Nat} (hp : Rd Bp w 1 Ap np kp (is p)) (hv : YZ Pf Mf mf p Q) :
    Calls Try.prog 118 #[.agg #[.int .i64 Pf, .int .i64 Mf, .slice Af nf kf], .slice Ap np kp] w <| Rt w fun v Qr => ∃ (r0 : List Int) (Ar0 : Option Addr) (cr0 : Nat), v = .slice Ar0 r0.length cr0 /\ Qr = [.row 3 1 Ar0 r0.length cr0 (is r0)] /\ Q r0 := by
  have hnf := hf.ilen
  subst hnf
  have hnp := hp.ilen
  subst hnp
  refine Jn <| Jl (vs := [.agg #[nI Pf, nI Mf, nS Af mf kf], nS Ap p kp]) [4] Jmn rfl rfl rfl rfl ?_
  have hS := Jt w
  unfold YZ at hv
  refine Jd 2 <| JH (z := 3) (cs := [nI Pf, nI Mf, nS Af mf kf]) hS rfl rfl rfl rfl ?_
  intro g11 w12 hS
  refine Jc 2 <| Jd 9 <| W.block ?_
  obtain ⟨I19, μ20, hv, hk74⟩ := hv
  refine JE (σ := Int × Int) (fun q w1 => match q with | (z17, z18) => I19 z17 z18 /\ St TT w none w1 [.row 24 3 (nA g11) 1 1 [nI Pf, nI Mf, nS Af mf kf]]) (fun (z17, z18) => [(1, nS Ap p kp), (2, nP g11), (4, .slice none 0 0), (5, nI z17), (6, nI z18)]) (fun (z17, z18) => μ20 z17 z18) ((0 : Int), (0 : Int)) ⟨hv, hS⟩ ⟨rfl, rfl, rfl, rfl, rfl, trivial⟩ ?_
  rintro ⟨z17, z18⟩ w21 ⟨hv, hS⟩
  have hv := hk74 z17 z18 hv
  refine Jd 5 <| WL.len Jh rfl rfl <| Jc 2 <| Jj rfl (fun c22 => ?_) (fun c22 => ?_)
  .have hv := hv.1 (oT c22)
   refine Jr <| JA ?_
   obtain ⟨J25, hv, hk42⟩ := hv
   refine QT (σ := Int × Bool) (fun q w1 => match q with | (z23, b24) => J25 z23 b24 /\ St TT w none w1 [.row 24 3 (nA g11) 1 1 [nI Pf, nI Mf, nS Af mf kf]]) (fun (z23, b24) => [(1, nS Ap p kp), (2, nP g11), (4, .slice none 0 0), (5, nI z23), (6, nI z18), (12, .bool (decide (z18 < (p.length : Int)))), (21, .bool b24)]) ?_ ?_
   .refine W.block ?_
    refine JA ?_
    obtain ⟨o30, hv⟩ := hv
    obtain ⟨r33, o35, hv⟩ := hv
    refine JK 7 [⟨[], [2], false⟩, ⟨[], [1], true⟩, ⟨[], [6], true⟩, ⟨[1, 2], [], true⟩, ⟨[3], [], false⟩, ⟨[0, 4], [], false⟩, ⟨[5], [], true⟩] [(15, .agg #[nI Pf, nI Mf, nS Af mf kf]), (16, nS Ap p kp), (17, nI z18), (18, .pointer (some ((JU Ap).add z18.toNat))), (19, nI (gi p z18)), (20, nI r33), (21, .bool (decide (r33 ≠ 0)))] Try.mixed (by kernel_rfl) rfl rfl ?_ ?_
    . refine ⟨og hS fun _ _ hS => JD 0 JW J0 hS rfl ⟨rfl, rfl⟩ rfl <| Ja ⟨rfl, Jg _⟩, oD, oD, fun _ _ _ => Jo Jh XE3 (hS.ro hp) rfl rfl o30 rfl <| Ja ⟨rfl, rfl⟩, og hS fun _ _ hS => Js XU3 rfl rfl (JJ (hS.ro hp) o30) rfl <| Ja ⟨rfl, Jg _⟩, ?_, oD, trivial⟩
      intro w32 hE RR
      have hS := hS.grow (hE rfl)
      refine WL.call XF98 rfl XN98 rfl rfl (JF (Jj3 (hS.ro hf) o35)) ?_
      rintro _ w34 ⟨_, hGw34, hRww34, hNww34, r33q, rfl, rfl, he⟩
      subst he
      exact Ja ⟨rfl, hGw34⟩
    intro w37 hT
    have hS := hS.grow hT
    refine JC <| Jj rfl (fun c38 => ?_) (fun c38 => ?_)
    .have hv := hv.1 (oT c38)
     refine Jd 2 ?_
     obtain ⟨o39, hv⟩ := hv
     refine WL.add (r := (z18 + 1)) rfl rfl (wr o39) rfl <| Jc 2 ?_
     exact ⟨((z18 + 1), (decide (r33 ≠ 0))), sp rfl, rfl, hv, hS⟩
    have hv := hv.2 (oF c38)
    refine Jr ?_
    exact ⟨(z17, (decide (r33 ≠ 0))), sp rfl, rfl, hv, hS⟩
   rintro ⟨z23, b24⟩ w40 ⟨hv, hS⟩
   have hv := hk42 z23 b24 hv
   refine Jd 2 ?_
   obtain ⟨o41, hv⟩ := hv
   refine WL.add (r := (z18 + 1)) rfl rfl (wr o41) rfl <| Jc 2 ?_
   exact ⟨(z23, (z18 + 1)), sp rfl, hv.2, rfl, hv.1, hS⟩
  have hv := hv.2 (oF c22)
  refine JB <| Jd 3 ?_
  obtain ⟨o43, hv⟩ := hv
  refine QI (J := z17) hS Jh XE3 rfl rfl o43 (QG _) rfl ?_
  intro A44 w45 hS
  refine Jc 2 <| Jd 5 <| W.block ?_
  obtain ⟨I53, μ54, hv, hk73⟩ := hv
  refine JE (σ := List Int × Int) (fun q w1 => match q with | (x51, z52) => I53 x51 z52 /\ St TT w none w1 [.row 3 1 A44 z17.toNat z17.toNat (is x51), .row 24 3 (nA g11) 1 1 [nI Pf, nI Mf, nS Af mf kf]]) (fun (x51, z52) => [(1, nS Ap p kp), (2, nP g11), (4, .slice none 0 0), (5, nI z17), (7, .slice A44 z17.toNat z17.toNat), (8, nI z52)]) (fun (x51, z52) => μ54 x51 z52) (List.replicate z17.toNat (0 : Int), (0 : Int)) ⟨hv, hS⟩ ⟨rfl, rfl, rfl, rfl, rfl, rfl, trivial⟩ ?_
  rintro ⟨x51, z52⟩ w55 ⟨hv, hS⟩
  have hv := hk73 x51 z52 hv
  refine Jd 7 <| Jj rfl (fun c56 => ?_) (fun c56 => ?_)
  .have hv := hv.1 (oT c56)
   refine Jr <| JA <| W.block ?_
   obtain ⟨o63, hv⟩ := hv
   obtain ⟨r66, o68, hv⟩ := hv
   refine JK 8 [⟨[], [7], true⟩, ⟨[], [8], true⟩, ⟨[], [2], false⟩, ⟨[], [1], true⟩, ⟨[], [8], true⟩, ⟨[3, 4], [], true⟩, ⟨[5], [], false⟩, ⟨[2, 6], [], false⟩] [(31, .slice A44 z17.toNat z17.toNat), (32, nI z52), (33, .agg #[nI Pf, nI Mf, nS Af mf kf]), (34, nS Ap p kp), (35, nI z52), (36, .pointer (some ((JU Ap).add z52.toNat))), (37, nI (gi p z52)), (38, nI r66)] Try.mixed (by kernel_rfl) rfl rfl ?_ ?_
   . refine ⟨oD, oD, og hS fun _ _ hS => JD 1 JW J0 hS rfl ⟨rfl, rfl⟩ rfl <| Ja ⟨rfl, Jg _⟩, oD, oD, fun _ _ _ => Jo Jh XE3 (hS.ro hp) rfl rfl o63 rfl <| Ja ⟨rfl, rfl⟩, og hS fun _ _ hS => Js XU3 rfl rfl (JJ (hS.ro hp) o63) rfl <| Ja ⟨rfl, Jg _⟩, ?_, trivial⟩
     intro w65 hE RR
     have hS := hS.grow (hE rfl)
     refine WL.call XF98 rfl XN98 rfl rfl (JF (Jj3 (hS.ro hf) o68)) ?_
     rintro _ w67 ⟨_, hGw67, hRww67, hNww67, r66q, rfl, rfl, he⟩
     subst he
     exact Ja ⟨rfl, hGw67⟩
   intro w69 hT
   have hS := hS.grow hT
   refine Je 8 rfl ?_
   obtain ⟨o70, hv⟩ := hv
   refine Jo Jh XE3 (hS.rd (i := 0) rfl) rfl rfl o70 rfl <| Ja <| Je 9 rfl <| Jf (cs' := is (si x51 z52 r66)) 0 z52.toNat hS rfl XE3 rfl rfl rfl (Qu (hS.rd (i := 0) rfl) o70) (Qb _ _ _) ?_
   intro w71 hS
   refine Ja <| JC <| Jd 2 ?_
   obtain ⟨o72, hv⟩ := hv
   refine WL.add (r := (z52 + 1)) rfl rfl (wr o72) rfl <| Jc 2 ?_
   exact ⟨(si x51 z52 r66, (z52 + 1)), sp rfl, hv.2, rfl, hv.1, hS⟩
  have hv := hv.2 (oF c56)
  refine JB <| Jd 5 <| W.ret ?_
  have hm0 := (hS.rd (i := 0) rfl).ilen
  have hS := hS.relen (i := 0) rfl hm0.symm
  refine ⟨_, rfl, Fin.nil ?_⟩
  exact ⟨_, hS.ext, (hS.pick [0] rfl).rows, Yl (hS.pick [0] rfl).rows rfl, ⟨x51, A44, z17.toNat, (by (try unfold nS); first | (rw [hm0]; done) | (rw [hm0]; rfl)), rfl, hv⟩⟩
def Jdc (Pf : Int) (Mf : Int) (mf : List Int) (p : List Int) (t : List Int) (Q : List Int -> Prop) : Prop :=
  YZ Pf Mf mf p (fun x14 => YZ Pf Mf mf t (fun x19 => (I64 ((x14.length : Int) + (x19.length : Int))) /\ ((0 <= ((x14.length : Int) + (x19.length : Int)) /\ ((x14.length : Int) + (x19.length : Int)) * 8 <= 281474976710656 /\ ((x14.length : Int) + (x19.length : Int)) <= 281474976710656) /\ (∃ (I34 : List Int -> Int -> Prop) (μ35 : List Int -> Int -> Nat), I34 (List.replicate ((x14.length : Int) + (x19.length : Int)).toNat (0 : Int)) (0 : Int) /\ ∀ (x32 : List Int) (z33 : Int), (I34 x32 z33 -> (((z33 < (x14.length : Int)) -> (∃ (I44 : List Int -> Int -> Prop) (μ45 : List Int -> Int -> Nat), I44 x32 (0 : Int) /\ ∀ (x42 : List Int) (z43 : Int), (I44 x42 z43 -> (((z43 < (x19.length : Int)) -> ((I64 (z33 + z43)) /\ ((I64 (z33 + z43)) /\ ((0 <= (z33 + z43) /\ (z33 + z43) < (((x14.length : Int) + (x19.length : Int)).toNat : Nat)) /\ ((0 <= z33 /\ z33 < (x14.length : Nat)) /\ ((0 <= z43 /\ z43 < (x19.length : Nat)) /\ (∃ (r74 : Int), YC Pf Mf mf (gi x14 z33) (gi x19 z43) (fun q => q = r74) /\ (∃ (r78 : Int), ZC Pf Mf mf (gi x42 (z33 + z43)) r74 (fun q => q = r78) /\ ((0 <= (z33 + z43) /\ (z33 + z43) < (((x14.length : Int) + (x19.length : Int)).toNat : Nat)) /\ ((I64 (z43 + 1)) /\ (I44 (si x42 (z33 + z43) r78) (z43 + 1) /\ μ45 (si x42 (z33 + z43) r78) (z43 + 1) < μ45 x42 z43))))))))))) /\ (¬ (z43 < (x19.length : Int)) -> ((I64 (z33 + 1)) /\ (I34 x42 (z33 + 1) /\ μ35 x42 (z33 + 1) < μ35 x32 z33))))))) /\ (¬ (z33 < (x14.length : Int)) -> (YZ Pf Mf mf x32 (fun x88 => Q x88)))))))))
theorem Jpx {w : World} {Q : List Int -> Prop} {Pf : Int} {Mf : Int} {mf : List Int} {p : List Int} {t : List Int} {Bf : Nat} {Af : Option Addr} {nf kf : Nat} (hf : Rd Bf w 1 Af nf kf (is mf)) {Bp : Nat} {Ap : Option Addr} {np kp : Nat} (hp : Rd Bp w 1 Ap np kp (is p)) {Bt : Nat} {At : Option Addr} {nt kt : Nat} (ht : Rd Bt w 1 At nt kt (is t)) (hv : Jdc Pf Mf mf p t Q) :
    Calls Try.prog 90 #[.agg #[.int .i64 Pf, .int .i64 Mf, .slice Af nf kf], .slice Ap np kp, .slice At nt kt] w <| Rt w fun v Qr => ∃ (r0 : List Int) (Ar0 : Option Addr) (cr0 : Nat), v = .slice Ar0 r0.length cr0 /\ Qr = [.row 3 1 Ar0 r0.length cr0 (is r0)] /\ Q r0 := by
  have hnf := hf.ilen
  subst hnf
  have hnp := hp.ilen
  subst hnp
  have hnt := ht.ilen
  subst hnt
  refine Jn <| Jl (vs := [.agg #[nI Pf, nI Mf, nS Af mf kf], nS Ap p kp, nS At t kt]) [6] XF90 rfl rfl rfl rfl ?_
  have hS := Jt w
  unfold Jdc at hv
  refine Jd 2 <| JH (z := 3) (cs := [nI Pf, nI Mf, nS Af mf kf]) hS rfl rfl rfl rfl ?_
  intro g11 w12 hS
  refine Jc 2 <| Jd 2 <| JD 0 JW J0 hS rfl ⟨rfl, rfl⟩ rfl <| Jq rfl rfl <| SL.call hS (Jbk (hS.ro hf) (hS.ro hp) hv) Jmn rfl Jq5 rfl rfl ?_
  rintro _ _ w13 ⟨x14, A15, k16, rfl, rfl, hv⟩ hGw13 hS
  have hS := hS.n1
  refine Jc 2 <| Jd 2 <| JD 1 JW J0 hS rfl ⟨rfl, rfl⟩ rfl <| Jq rfl rfl <| SL.call hS (Jbk (hS.ro hf) (hS.ro ht) hv) Jmn rfl Jq5 rfl rfl ?_
  rintro _ _ w18 ⟨x19, A20, k21, rfl, rfl, hv⟩ hGw18 hS
  have hS := hS.n1
  refine Jc 2 <| Jd 3 <| WL.len Jh rfl rfl <| Jq rfl rfl <| WL.len Jh rfl rfl ?_
  obtain ⟨o23, hv⟩ := hv
  refine WL.add (r := ((x14.length : Int) + (x19.length : Int))) rfl rfl (wr o23) rfl ?_
  obtain ⟨o24, hv⟩ := hv
  refine QI (J := ((x14.length : Int) + (x19.length : Int))) hS Jh XE3 rfl rfl o24 (QG _) rfl ?_
  intro A25 w26 hS
  refine Jc 2 <| Jd 5 <| W.block ?_
  obtain ⟨I34, μ35, hv, hk92⟩ := hv
  refine JE (σ := List Int × Int) (fun q w1 => match q with | (x32, z33) => I34 x32 z33 /\ St TT w none w1 [.row 3 1 A25 (((x14.length : Int) + (x19.length : Int)).toNat) (((x14.length : Int) + (x19.length : Int)).toNat) (is x32), nR 3 A20 x19 k21, nR 3 A15 x14 k16, .row 24 3 (nA g11) 1 1 [nI Pf, nI Mf, nS Af mf kf]]) (fun (x32, z33) => [(1, nS A15 x14 k16), (2, nS A20 x19 k21), (3, nP g11), (6, .slice none 0 0), (7, .slice A25 (((x14.length : Int) + (x19.length : Int)).toNat) (((x14.length : Int) + (x19.length : Int)).toNat)), (8, nI z33)]) (fun (x32, z33) => μ35 x32 z33) (List.replicate ((x14.length : Int) + (x19.length : Int)).toNat (0 : Int), (0 : Int)) ⟨hv, hS⟩ ⟨rfl, rfl, rfl, rfl, rfl, rfl, trivial⟩ ?_
  rintro ⟨x32, z33⟩ w36 ⟨hv, hS⟩
  have hv := hk92 x32 z33 hv
  refine Jd 5 <| WL.len Jh rfl rfl <| Jc 2 <| Jj rfl (fun c37 => ?_) (fun c37 => ?_)
  .have hv := hv.1 (oT c37)
   refine Jr <| JA <| W.block <| Jd 4 <| W.block ?_
   obtain ⟨I44, μ45, hv, hk86⟩ := hv
   refine JE (σ := List Int × Int) (fun q w1 => match q with | (x42, z43) => I44 x42 z43 /\ St TT w none w1 [.row 3 1 A25 (((x14.length : Int) + (x19.length : Int)).toNat) (((x14.length : Int) + (x19.length : Int)).toNat) (is x42), nR 3 A20 x19 k21, nR 3 A15 x14 k16, .row 24 3 (nA g11) 1 1 [nI Pf, nI Mf, nS Af mf kf]]) (fun (x42, z43) => [(1, nS A15 x14 k16), (2, nS A20 x19 k21), (3, nP g11), (6, .slice none 0 0), (7, .slice A25 (((x14.length : Int) + (x19.length : Int)).toNat) (((x14.length : Int) + (x19.length : Int)).toNat)), (8, nI z33), (9, nI z43), (25, .bool (decide (z33 < (x14.length : Int))))]) (fun (x42, z43) => μ45 x42 z43) (x32, (0 : Int)) ⟨hv, hS⟩ ⟨rfl, rfl, rfl, rfl, rfl, rfl, rfl, rfl, trivial⟩ ?_
   rintro ⟨x42, z43⟩ w46 ⟨hv, hS⟩
   have hv := hk86 x42 z43 hv
   refine Jd 5 <| WL.len Jh rfl rfl <| Jc 2 <| Jj rfl (fun c47 => ?_) (fun c47 => ?_)
   .have hv := hv.1 (oT c47)
    refine Jr <| JA <| W.block ?_
    obtain ⟨o52, hv⟩ := hv
    obtain ⟨o58, hv⟩ := hv
    obtain ⟨o60, hv⟩ := hv
    obtain ⟨o66, hv⟩ := hv
    obtain ⟨o71, hv⟩ := hv
    obtain ⟨r74, o76, hv⟩ := hv
    obtain ⟨r78, o80, hv⟩ := hv
    refine JK 22 [⟨[], [7], true⟩, ⟨[], [8], true⟩, ⟨[], [9], true⟩, ⟨[1, 2], [], true⟩, ⟨[], [3], false⟩, ⟨[], [7], true⟩, ⟨[], [8], true⟩, ⟨[], [9], true⟩, ⟨[6, 7], [], true⟩, ⟨[5, 8], [], true⟩, ⟨[9], [], false⟩, ⟨[], [3], false⟩, ⟨[], [1], true⟩, ⟨[], [8], true⟩, ⟨[12, 13], [], true⟩, ⟨[14], [], false⟩, ⟨[], [2], true⟩, ⟨[], [9], true⟩, ⟨[16, 17], [], true⟩, ⟨[18], [], false⟩, ⟨[11, 15, 19], [], false⟩, ⟨[4, 10, 20], [], false⟩] [(34, .slice A25 (((x14.length : Int) + (x19.length : Int)).toNat) (((x14.length : Int) + (x19.length : Int)).toNat)), (35, nI z33), (36, nI z43), (37, nI (z33 + z43)), (38, .agg #[nI Pf, nI Mf, nS Af mf kf]), (39, .slice A25 (((x14.length : Int) + (x19.length : Int)).toNat) (((x14.length : Int) + (x19.length : Int)).toNat)), (40, nI z33), (41, nI z43), (42, nI (z33 + z43)), (43, .pointer (some ((JU A25).add ((z33 + z43).toNat)))), (44, nI (gi x42 (z33 + z43))), (45, .agg #[nI Pf, nI Mf, nS Af mf kf]), (46, nS A15 x14 k16), (47, nI z33), (48, .pointer (some ((JU A15).add z33.toNat))), (49, nI (gi x14 z33)), (50, nS A20 x19 k21), (51, nI z43), (52, .pointer (some ((JU A20).add z43.toNat))), (53, nI (gi x19 z43)), (54, nI r74), (55, nI r78)] Try.mixed (by kernel_rfl) rfl rfl ?_ ?_
    . refine ⟨oD, oD, oD, fun _ _ _ => WL.add (r := (z33 + z43)) rfl rfl (wr o52) rfl <| Ja ⟨rfl, rfl⟩, og hS fun _ _ hS => JD 3 JW J0 hS rfl ⟨rfl, rfl⟩ rfl <| Ja ⟨rfl, Jg _⟩, oD, oD, oD, fun _ _ _ => WL.add (r := (z33 + z43)) rfl rfl (wr o58) rfl <| Ja ⟨rfl, rfl⟩, fun _ _ _ => Jo Jh XE3 (hS.rd (i := 0) rfl) rfl rfl o60 rfl <| Ja ⟨rfl, rfl⟩, og hS fun _ _ hS => Js XU3 rfl rfl (JJ (hS.rd (i := 0) rfl) o60) rfl <| Ja ⟨rfl, Jg _⟩, og hS fun _ _ hS => JD 3 JW J0 hS rfl ⟨rfl, rfl⟩ rfl <| Ja ⟨rfl, Jg _⟩, oD, oD, fun _ _ _ => Jo Jh XE3 (hS.rd (i := 2) rfl) rfl rfl o66 rfl <| Ja ⟨rfl, rfl⟩, og hS fun _ _ hS => Js XU3 rfl rfl (JJ (hS.rd (i := 2) rfl) o66) rfl <| Ja ⟨rfl, Jg _⟩, oD, oD, fun _ _ _ => Jo Jh XE3 (hS.rd (i := 1) rfl) rfl rfl o71 rfl <| Ja ⟨rfl, rfl⟩, og hS fun _ _ hS => Js XU3 rfl rfl (JJ (hS.rd (i := 1) rfl) o71) rfl <| Ja ⟨rfl, Jg _⟩, ?_, ?_, trivial⟩
      . intro w73 hE RR
        have hS := hS.grow (hE rfl)
        refine WL.call Ji5 rfl Jlc rfl rfl (JF (Zb (hS.ro hf) o76)) ?_
        rintro _ w75 ⟨_, hGw75, hRww75, hNww75, r74q, rfl, rfl, he⟩
        subst he
        exact Ja ⟨rfl, hGw75⟩
      intro w77 hE RR
      have hS := hS.grow (hE rfl)
      refine WL.call XF89 rfl XN89 rfl rfl (JF (Jc7 (hS.ro hf) o80)) ?_
      rintro _ w79 ⟨_, hGw79, hRww79, hNww79, r78q, rfl, rfl, he⟩
      subst he
      exact Ja ⟨rfl, hGw79⟩
    intro w81 hT
    have hS := hS.grow hT
    refine Je 22 rfl ?_
    obtain ⟨o82, hv⟩ := hv
    refine Jo Jh XE3 (hS.rd (i := 0) rfl) rfl rfl o82 rfl <| Ja <| Je 23 rfl <| Jf (cs' := is (si x42 (z33 + z43) r78)) 0 (z33 + z43).toNat hS rfl XE3 rfl rfl rfl (Qu (hS.rd (i := 0) rfl) o82) (Qb _ _ _) ?_
    intro w83 hS
    refine Ja <| JC <| Jd 2 ?_
    obtain ⟨o84, hv⟩ := hv
    refine WL.add (r := (z43 + 1)) rfl rfl (wr o84) rfl <| Jc 2 ?_
    exact ⟨(si x42 (z33 + z43) r78, (z43 + 1)), sp rfl, hv.2, rfl, hv.1, hS⟩
   have hv := hv.2 (oF c47)
   refine JB <| Jd 2 ?_
   obtain ⟨o85, hv⟩ := hv
   refine WL.add (r := (z33 + 1)) rfl rfl (wr o85) rfl <| Jc 2 ?_
   exact ⟨(x42, (z33 + 1)), sp rfl, hv.2, rfl, hv.1, hS⟩
  have hv := hv.2 (oF c37)
  refine JB <| Jd 2 <| JD 3 JW J0 hS rfl ⟨rfl, rfl⟩ rfl <| Jq rfl rfl <| SL.call hS (Jbk (hS.ro hf) (hS.rd (i := 0) rfl) hv) Jmn rfl Jq5 rfl rfl ?_
  rintro _ _ w87 ⟨x88, A89, k90, rfl, rfl, hv⟩ hGw87 hS
  have hS := hS.n1
  refine Jc 2 <| W.ret <| ⟨_, rfl, Fin.nil ?_⟩
  exact (hS.pick [0] rfl).fin rfl ⟨x88, A89, k90, rfl, rfl, hv⟩
def Yi (Pf : Int) (Mf : Int) (mf : List Int) (rs : List Int) (Q : List Int -> Prop) : Prop :=
  ∃ (I31 : List Int -> Int -> Prop) (μ32 : List Int -> Int -> Nat), I31 ([(1 : Int)] : List Int) (0 : Int) /\ ∀ (x26 : List Int) (z30 : Int), (I31 x26 z30 -> (((z30 < (rs.length : Int)) -> ((0 <= z30 /\ z30 < (rs.length : Nat)) /\ (∃ (r44 : Int), Jb9 Pf Mf mf (gi rs z30) (fun q => q = r44) /\ (∃ (x55 : List Int), Jdc Pf Mf mf x26 ([r44, (1 : Int)] : List Int) (fun q => q = x55) /\ ((I64 (z30 + 1)) /\ (I31 x55 (z30 + 1) /\ μ32 x55 (z30 + 1) < μ32 x26 z30)))))) /\ (¬ (z30 < (rs.length : Int)) -> Q x26)))
theorem Jeu {w : World} {Q : List Int -> Prop} {Pf : Int} {Mf : Int} {mf : List Int} {rs : List Int} {Bf : Nat} {Af : Option Addr} {nf kf : Nat} (hf : Rd Bf w 1 Af nf kf (is mf)) {Brs : Nat} {Ars : Option Addr} {nrs krs : Nat} (hrs : Rd Brs w 1 Ars nrs krs (is rs)) (hv : Yi Pf Mf mf rs Q) :
    Calls Try.prog 46 #[.agg #[.int .i64 Pf, .int .i64 Mf, .slice Af nf kf], .slice Ars nrs krs] w <| Rt w fun v Qr => ∃ (r0 : List Int) (Ar0 : Option Addr) (cr0 : Nat), v = .slice Ar0 r0.length cr0 /\ Qr = [.row 3 1 Ar0 r0.length cr0 (is r0)] /\ Q r0 := by
  have hnf := hf.ilen
  subst hnf
  have hnrs := hrs.ilen
  subst hnrs
  refine Jn <| Jl (vs := [.agg #[nI Pf, nI Mf, nS Af mf kf], nS Ars rs krs]) [4] XF46 rfl rfl rfl rfl ?_
  have hS := Jt w
  unfold Yi at hv
  refine Jd 2 <| JH (z := 3) (cs := [nI Pf, nI Mf, nS Af mf kf]) hS rfl rfl rfl rfl ?_
  intro g11 w12 hS
  refine Jc 2 <| Jd 2 <| JL (vs := is ([(1 : Int)] : List Int)) hS Jh XE3 rfl rfl rfl rfl (Jm _) rfl ?_
  intro A13 w14 hS
  refine Jc 2 <| Jd 5 <| W.block ?_
  obtain ⟨I31, μ32, hv, hk67⟩ := hv
  have hm0 : 1 = ([(1 : Int)] : List Int).length := (hS.rd (i := 0) rfl).ilen.symm
  have hS := hS.relen (i := 0) rfl hm0
  change St _ _ _ _ [_, _] at hS
  refine JE (σ := List Int × Int × Option Addr × Nat) (fun q w1 => match q with | (x26, z30, A27, k28) => I31 x26 z30 /\ St TT w none w1 [nR 3 A27 x26 k28, .row 24 3 (nA g11) 1 1 [nI Pf, nI Mf, nS Af mf kf]]) (fun (x26, z30, A27, k28) => [(1, nS Ars rs krs), (2, nP g11), (4, .slice none 0 0), (5, nS A27 x26 k28), (6, nI z30)]) (fun (x26, z30, A27, k28) => μ32 x26 z30) (([(1 : Int)] : List Int), (0 : Int), A13, 1) ⟨hv, hS⟩ ⟨rfl, rfl, rfl, (sm (by first | rfl | assumption | omega)), rfl, trivial⟩ ?_
  rintro ⟨x26, z30, A27, k28⟩ w33 ⟨hv, hS⟩
  have hv := hk67 x26 z30 hv
  refine Jd 5 <| WL.len Jh rfl rfl <| Jc 2 <| Jj rfl (fun c34 => ?_) (fun c34 => ?_)
  .have hv := hv.1 (oT c34)
   refine Jr <| JA <| W.block ?_
   obtain ⟨o41, hv⟩ := hv
   obtain ⟨r44, o46, hv⟩ := hv
   obtain ⟨x55, o62, hv⟩ := hv
   have hS0 := hS
   refine Ye 11 (fun iA => [false, false, false, false, false, false, false, false, true, true, false].getD iA false) (fun iC => match iC with | 10 => some 9 | _ => none) (fun _ v u => u = v) [⟨[], [2], false⟩, ⟨[], [5], true⟩, ⟨[], [2], false⟩, ⟨[], [1], true⟩, ⟨[], [6], true⟩, ⟨[3, 4], [], true⟩, ⟨[5], [], false⟩, ⟨[2, 6], [], false⟩, ⟨[7], [], false⟩, ⟨[0, 1, 8], [], false⟩, ⟨[9], [], true⟩] [.k 14 (.agg #[nI Pf, nI Mf, nS Af mf kf]), .k 15 (nS A27 x26 k28), .k 16 (.agg #[nI Pf, nI Mf, nS Af mf kf]), .k 17 (nS Ars rs krs), .k 18 (nI z30), .k 19 (.pointer (some ((JU Ars).add z30.toNat))), .k 20 (nI (gi rs z30)), .k 21 (nI r44), eS w33 22 3 2 (is ([r44, (1 : Int)] : List Int)), eS w33 23 3 x55.length (is x55), eS w33 5 3 x55.length (is x55)] (fun _ => vbD) Try.mixed (by kernel_rfl) rfl rfl (fun _ _ _ _ _ _ _ h => h) ?_ ?_
   . refine ⟨og hS fun _ _ hS => JD 1 JW J0 hS rfl ⟨rfl, rfl⟩ rfl <| Ja ⟨rfl, Jg _⟩, oC, og hS fun _ _ hS => JD 1 JW J0 hS rfl ⟨rfl, rfl⟩ rfl <| Ja ⟨rfl, Jg _⟩, oC, oC, fun _ _ _ => Jo Jh XE3 (hS.ro hrs) rfl rfl o41 rfl <| Ja ⟨rfl, rfl⟩, og hS fun _ _ hS => Js XU3 rfl rfl (JJ (hS.ro hrs) o41) rfl <| Ja ⟨rfl, Jg _⟩, ?_, ?_, ?_, ?_, trivial⟩
     . intro w43 hE
       have hS := hS.grow (hE rfl)
       intro RR
       refine WL.call XF91 rfl XN91 rfl rfl (JF (Jl3 (hS.ro hf) o46)) ?_
       rintro _ w45 ⟨_, hGw45, hRww45, hNww45, r44q, rfl, rfl, he⟩
       subst he
       exact Ja ⟨rfl, hGw45⟩
     . intro w47 hE
       have hE := hE rfl
       have hS := hS.grow hE
       intro RR
       refine Jdf (vs := is ([r44, (1 : Int)] : List Int)) Jh XE3 rfl rfl rfl rfl (Jm _) rfl ?_
       intro A48 k51 w49 hO52 hN53g hGw49
       have hN53 : ∀ g, bl A48 = some g -> _ <= g := fun g hg => Nat.le_trans hE.size (hN53g g hg)
       exact Ja ⟨_, rfl, hGw49, ⟨A48, k51, rfl, hO52, hN53⟩, (fun _ => fun g hg => ⟨hN53g g hg, (hO52.bl_ge g hg).2⟩), (fun j h => by cases h)⟩
     . intro w54 hE
       have hE := hE rfl
       have hS := hS.grow hE
       rintro _ ⟨A48_8, k51_8, rfl, hO52_8, hN53_8⟩
       intro RR
       refine WL.call XF90 rfl XN90 rfl rfl (JF (Jpx (hS.ro hf) (hS.rd (i := 0) rfl) hO52_8.rd o62)) ?_
       rintro _ w59 ⟨_, hGw59, hRww59, hNww59, x55q, A56, k57, rfl, rfl, he⟩
       subst he
       have hO60 := (hRww59.get (i := 0) rfl).1
       have hN61 : ∀ g, bl A56 = some g -> _ <= g := fun g hg => Nat.le_trans hE.size (hNww59.1 g hg)
       exact Ja ⟨_, rfl, hGw59, ⟨A56, k57, rfl, hO60, hN61⟩, (fun _ => fun g hg => ⟨hNww59.1 g hg, (hO60.bl_ge g hg).2⟩), (fun j h => by cases h)⟩
     intro w63 hE
     rintro _ ⟨A56_9, k57_9, rfl, hO60_9, hN61_9⟩
     intro RR
     refine Qk rfl rfl ?_
     exact Ja ⟨_, rfl, rfl, ⟨A56_9, k57_9, rfl, hO60_9, hN61_9⟩, (fun h => absurd h (by decide)), (fun j h => by cases h; exact ⟨_, rfl, rfl⟩)⟩
   intro vals w64 hT hVs hAp hCp
   have hS := hS.grow hT
   obtain ⟨A48_8, k51_8, hv8, hO52_8, hN53_8⟩ := hVs 8 (by decide)
   obtain ⟨A56_9, k57_9, hv9, hO60_9, hN61_9⟩ := hVs 9 (by decide)
   have hv10 : vals 10 = nS A56_9 x55 k57_9 := (hCp 10 9 (by decide) rfl).trans hv9
   have hS := JX [] hS0 hS hO60_9 hN61_9 (fun s hs => by cases hs)
   refine Yg [(8, .slice A48_8 2 k51_8), (9, nS A56_9 x55 k57_9), (10, nS A56_9 x55 k57_9)] ⟨hv8, hv9, hv10, trivial⟩ <| JC <| Jd 2 ?_
   obtain ⟨o66, hv⟩ := hv
   refine WL.add (r := (z30 + 1)) rfl rfl (wr o66) rfl <| Jc 2 ?_
   have hS := hS.pick [0, 2] rfl
   exact ⟨(x55, (z30 + 1), A56_9, k57_9), sp rfl, hv.2, rfl, hv.1, hS⟩
  have hv := hv.2 (oF c34)
  refine JB <| Jd 5 <| W.ret <| ⟨_, rfl, Fin.nil ?_⟩
  exact (hS.pick [0] rfl).fin rfl ⟨x26, A27, k28, rfl, rfl, hv⟩
end Go.Proofs.Ytppkigdakobebaa
set_option linter.unusedVariables false
namespace Go.Proofs.Ytppkigdakobebaa
def rs (A : Nat -> Nat -> Nat) (f : Nat -> Nat) : Nat -> Nat
  | 0 => 0
  | n + 1 => A (rs A f n) (f n)
section
variable {q : Nat} {A M : Nat -> Nat -> Nat} (R : CR q A M)
include R
namespace CR
end CR
end
end Go.Proofs.Ytppkigdakobebaa
set_option linter.unusedVariables false
set_option linter.unusedSimpArgs false
set_option linter.unusedSectionVars false
namespace Go.Proofs.Ytppkigdakobebaa
section
variable {α : Type} [Cr α]
theorem Dg.fs {f : Pl α} {d : Nat} (h : Dg f d) : Fs f := ⟨_, h.2⟩
/-! derivatives -/
def nt (x : α) : Nat -> α
  | 0 => 0
  | n + 1 => nt x n + x
end
section
variable {α : Type} [Cr α] [Fd α]
end
end Go.Proofs.Ytppkigdakobebaa
set_option linter.unusedVariables false
set_option linter.unusedSimpArgs false
namespace Go.Proofs.Ytppkigdakobebaa
namespace Ks
variable (k : Ks)
variable {k}
theorem el_one : k.el 1 = 1 := Subtype.ext (Yh (x := 1) k.R.one_lt)
variable (k)
variable {k}
theorem Jpq (l : List Int) : Fs (k.pol l) := ⟨_, Yq l⟩
theorem rp_ex {f : Pl k.E} (hf : Fs f) : ∃ l, k.Rp l f := by
  obtain ⟨n, hn⟩ := hf
  have key : ∀ d, (∀ h : 0 < d, f (d - 1) ≠ 0) -> Su f d -> k.Rp ((List.range d).map fun i => k.co (f i)) f := fun d h1 h2 => by
    have hl : ((List.range d).map fun i => k.co (f i)).length = d := by simp
    refine ⟨fun i hi => ?_, fun h0 => ?_, Pl.ext fun i => ?_⟩
    . rw [Zm]; split
      . exact Jin _
      . exact ⟨Int.le_refl 0, by have := k.R.pos; omega⟩
    . rw [hl] at h0 ⊢
      rw [Zm, if_pos (by omega)]
      exact fun e => h1 h0 (Jb4.1 e)
    . show k.el (vo _ i) = f i
      rw [Zm]; split
      . exact Qx _
      . rw [h2 i (by omega), ZR]
  rcases Jci hn with h | ⟨d, _, h⟩
  . exact ⟨_, key 0 (fun h => absurd h (Nat.lt_irrefl 0)) (by rw [h]; exact Su.zero 0)⟩
  . exact ⟨_, key (d + 1) (fun _ => h.1) h.2⟩
variable (k)
variable {k}
theorem Jok {f : Pl k.E} (hf : Fs f) : k.Rp (k.L f) f := by
  have h := rp_ex hf
  unfold L; rw [dif_pos h]; exact Classical.choose_spec h
theorem L_eq {l : List Int} {f : Pl k.E} (h : k.Rp l f) : l = k.L f := h.uniq (Jok ⟨_, h.su⟩)
theorem Jpr {f : Pl k.E} (hf : Fs f) : k.pol (k.L f) = f := (Jok hf).2.2
theorem L_su {f : Pl k.E} (hf : Fs f) : Su f (k.L f).length := (Jok hf).su
theorem Jr2 {f : Pl k.E} {n : Nat} (hf : Su f n) : (k.L f).length <= n := by
  rcases Nat.eq_zero_or_pos (k.L f).length with h | h
  . omega
  . have := ((Jok ⟨n, hf⟩).dg h).lt hf; omega
theorem L_dg {f : Pl k.E} {d : Nat} (h : Dg f d) : (k.L f).length = d + 1 := (Jok h.fs).len h
theorem L_at {f : Pl k.E} (hf : Fs f) (i : Nat) : vo (k.L f) i = k.co (f i) := by
  by_cases h : i < (k.L f).length
  . exact (Jok hf).at_ h
  . rw [Jhh (by omega), L_su hf i (by omega)]; rfl
end Ks
end Go.Proofs.Ytppkigdakobebaa
set_option linter.unusedVariables false
set_option linter.unusedSimpArgs false
namespace Go.Proofs.Ytppkigdakobebaa
open Ks
/-! ### the field's operations -/
section
variable {k : Ks} {F : GFv} {P M : Int} {mf : List Int}
theorem w_rIn {x : Int} {Q : Int -> Prop} (hF : FV P M mf k.p k.m k.v) (h : Q (k.co (k.el x))) : Jem P M mf x Q := v_rIn hF h
theorem w_rNeg {x : Int} {Q : Int -> Prop} (hF : FV P M mf k.p k.m k.v) (h : Q (k.co (-(k.el x)))) : Jb9 P M mf x Q := Jo5 hF h
theorem Jql {x : List Int} {n : Nat} {f : Pl k.E} (hl : x.length = n) (hv : ∀ i, i < n -> vo x i = k.co (f i)) (hs : Su f n) : k.Ell x /\ k.pol x = f := by
  refine ⟨fun i hi => by rw [hv i (by omega)]; exact Jin _, Pl.ext fun i => ?_⟩
  show k.el (vo x i) = f i
  by_cases hi : i < n
  . rw [hv i hi, Qx]
  . rw [Jhh (by omega), hs i (by omega), ZR]
def trn (f : Pl k.E) (j : Nat) : Pl k.E := fun i => if i < j then f i else 0
end
end Go.Proofs.Ytppkigdakobebaa
set_option linter.unusedVariables false
set_option linter.unusedSimpArgs false
namespace Go.Proofs.Ytppkigdakobebaa
open Ks
/-! ### products, quotients, greatest common divisors -/
section
variable {k : Ks} {F : GFv} {P M : Int} {mf : List Int}
theorem Jhk (f : Pl k.E) (j : Nat) : trn f (j + 1) = trn f j + mo (f j) j := Pl.ext fun i => by
  rw [Pl.add_at]
  unfold trn mo
  by_cases h : i < j
  . rw [if_pos (by omega), if_pos h, if_neg (by omega), Cr.add_zero]
  . by_cases h2 : i = j
    . rw [if_pos (by omega), if_neg h, if_pos h2, Cr.zero_add, h2]
    . rw [if_neg (by omega), if_neg h, if_neg h2, Cr.add_zero]
theorem Jln {f : Pl k.E} {n : Nat} (h : Su f n) : trn f n = f := Pl.ext fun i => by
  unfold trn; split
  . rfl
  . rename_i hc; exact (h i (by omega)).symm
theorem Jhj (f : Pl k.E) : trn f 0 = 0 := Pl.ext fun i => if_neg (Nat.not_lt_zero i)
theorem Js9 (n : Nat) : k.Ell (List.replicate n (0 : Int)) := fun i hi => by rw [Jdi]; exact ⟨Int.le_refl 0, by have := k.R.pos; omega⟩
theorem Jsi (n : Nat) : k.pol (List.replicate n (0 : Int)) = 0 := Pl.ext fun i => by show k.el (vo _ i) = 0; rw [Jdi, ZR]
theorem top_ne {x : List Int} {n : Nat} (hn : x.length = n) (h : k.pol x (n - 1) ≠ 0) : 0 < x.length -> vo x (x.length - 1) ≠ 0 := fun _ e => h (by
  show k.el (vo x (n - 1)) = 0
  rw [hn] at e; rw [e, ZR])
theorem L_one : k.L 1 = [1] := by
  refine (L_eq ⟨fun i hi => ?_, fun _ => ?_, Pl.ext fun i => ?_⟩).symm
  . have : i = 0 := by simp at hi; exact hi
    subst this
    exact ⟨by decide, Int.ofNat_lt.2 k.R.one_lt⟩
  . decide
  . show k.el (vo [1] i) = if i = 0 then 1 else 0
    by_cases h : i = 0
    . subst h; exact el_one
    . rw [if_neg h, Jhh (by simp; omega), ZR]
theorem L_two {f : Pl k.E} (h : Dg f 1) : k.L f = [k.co (f 0), k.co (f 1)] := by
  refine QY (by rw [L_dg h]; rfl) fun i hi => ?_
  rw [L_dg h] at hi
  rw [L_at h.fs]
  match i, hi with
  | 0, _ => rfl
  | 1, _ => rfl
theorem L_lin (a : k.E) : k.L (lin a) = [k.co (-a), 1] := L_two (Jgl a)
end
end Go.Proofs.Ytppkigdakobebaa
set_option linter.unusedVariables false
set_option linter.unusedSimpArgs false
namespace Go.Proofs.Ytppkigdakobebaa
open Ks
/-! ### derivatives, interpolation -/
section
variable {k : Ks} {F : GFv} {P M : Int} {mf : List Int}
/-! ### the reference's polynomials -/
theorem Jdg {p : List Int} {Q : List Int -> Prop} (hF : FV P M mf k.p k.m k.v) (hp : p.length <= 1000000) (h : Q (k.L (k.pol p))) : YZ P M mf p Q := by
  refine ⟨fun z i => ∃ n j : Nat, z = n /\ i = j /\ j <= p.length /\ n <= j /\ (∀ t, n <= t -> t < j -> k.pol p t = 0) /\ (0 < n -> k.pol p (n - 1) ≠ 0), fun z i => (p.length - i).toNat, ⟨0, 0, rfl, rfl, Nat.zero_le _, Nat.le_refl _, fun t _ h => by omega, fun h => by omega⟩, ?_⟩
  rintro _ _ ⟨n, j, rfl, rfl, hj, hnj, hz, hn0⟩
  dsimp only
  refine ⟨fun hlt => ⟨fun z _ => ∃ n' : Nat, z = n' /\ n' <= j + 1 /\ (∀ t, n' <= t -> t < j + 1 -> k.pol p t = 0) /\ (0 < n' -> k.pol p (n' - 1) ≠ 0), ⟨⟨by omega, by omega⟩, _, w_rIn hF rfl, fun hne => ⟨Jw (by omega) (by omega), j + 1, by push_cast; rfl, Nat.le_refl _, fun t _ _ => by omega, fun _ => ?_⟩, fun he => ⟨n, rfl, by omega, fun t h1 h2 => ?_, hn0⟩⟩, ?_⟩, fun hge => ?_⟩
  . rw [Nat.add_sub_cancel]; exact fun e => hne (Jb4.2 e)
  . by_cases e : t = j
    . have he2 : k.co (k.el (gi p (j : Int))) = 0 := by simpa using he
      rw [e]; exact Jb4.1 he2
    . exact hz t h1 (by omega)
  . rintro _ b ⟨n', rfl, h1, h2, h3⟩
    exact ⟨Jw (by omega) (by omega), ⟨n', j + 1, rfl, by push_cast; rfl, by omega, h1, h2, h3⟩, by omega⟩
  . have hjp : j = p.length := by omega
    subst hjp
    have hsu : Su (k.pol p) n := fun i hi => by
      by_cases h1 : i < p.length
      . exact hz i hi h1
      . exact Yq p i (by omega)
    rw [Int.toNat_natCast]
    refine ⟨⟨by omega, by omega, by omega⟩, Fill (fun i => k.co (k.pol p i)) n, fun x z => (n - z).toNat, YF _ n, ?_⟩
    rintro x _ ⟨j, rfl, hj2, hl, hv⟩
    dsimp only
    refine ⟨fun hlt => ⟨⟨by omega, by omega⟩, _, w_rIn hF rfl, ⟨by omega, by omega⟩, Jw (by omega) (by omega), Fill.step ⟨j, rfl, hj2, hl, hv⟩ (by omega) rfl, by omega⟩, fun hge2 => ?_⟩
    obtain ⟨he, hpol⟩ := Jql hl (fun i hi => hv i (by omega)) hsu
    have : x = k.L (k.pol p) := L_eq ⟨he, fun h0 => ?_, hpol⟩
    . rw [this]; exact h
    . refine top_ne (k := k) hl ?_ h0
      rw [hpol]; exact hn0 (by omega)
theorem mo_mo (a b : k.E) (i j : Nat) : mo a i * mo b j = mo (a * b) (i + j) := Pl.ext fun t => by
  rw [Jkb]
  unfold mo
  by_cases h : i <= t
  . rw [if_pos h]
    by_cases h2 : t - i = j
    . rw [if_pos h2, if_pos (by omega)]
    . rw [if_neg h2, if_neg (by omega), Cr.mul_zero]
  . rw [if_neg h, if_neg (by omega)]
theorem pol_si {x : List Int} {i : Nat} {a : k.E} (hi : i < x.length) : k.pol (si x (i : Int) (k.co (k.pol x i + a))) = k.pol x + mo a i := Pl.ext fun j => by
  show k.el (vo _ j) = _
  rw [Qi, Qa, Pl.add_at]
  unfold mo
  by_cases h : i = j
  . subst h; rw [if_pos ⟨rfl, hi⟩, if_pos rfl, Qx]
  . rw [if_neg (fun e => h e.1), if_neg (Ne.symm h), Cr.add_zero]; rfl
theorem ell_si {x : List Int} {i : Nat} {a : k.E} (he : k.Ell x) : k.Ell (si x (i : Int) (k.co a)) := fun j hj => by
  rw [Qi, List.length_set] at hj
  rw [Qi, Qa]; split
  . exact Jin a
  . exact he j hj
theorem Jr4 {p t : List Int} {Q : List Int -> Prop} (hF : FV P M mf k.p k.m k.v) (hp : p.length <= 40000) (ht : t.length <= 40000) (hQ : Q (k.L (k.pol p * k.pol t))) : Jdc P M mf p t Q := by
  have hcp := Jr2 (Yq (k := k) p)
  have hct := Jr2 (Yq (k := k) t)
  refine Jdg hF (by omega) (Jdg hF (by omega) ?_)
  have hff := Jpq (k := k) p
  have hhf := Jpq (k := k) t
  generalize hf : k.pol p = f at *
  generalize hh : k.pol t = h at *
  have hfs := L_su hff
  have hhs := L_su hhf
  generalize ha : (k.L f).length = a at *
  generalize hb : (k.L h).length = b at *
  rw [show (a : Int) + (b : Int) = ((a + b : Nat) : Int) by push_cast; rfl, Int.toNat_natCast]
  refine ⟨Jw (by omega) (by omega), ⟨by omega, by omega, by omega⟩, fun x z => ∃ i : Nat, z = i /\ i <= a /\ x.length = a + b /\ k.Ell x /\ k.pol x = trn f i * h, fun x z => (a - z).toNat,
    ⟨0, rfl, Nat.zero_le _, List.length_replicate, Js9 _, by rw [Jsi, Jhj, Cr.zero_mul]⟩, ?_⟩
  rintro x _ ⟨i, rfl, hi, hl, he, hx⟩
  dsimp only
  refine ⟨fun hz => ⟨fun x z => ∃ j : Nat, z = j /\ j <= b /\ x.length = a + b /\ k.Ell x /\ k.pol x = trn f i * h + mo (f i) i * trn h j, fun x z => (b - z).toNat, ⟨0, rfl, Nat.zero_le _, hl, he, by rw [hx, Jhj, Cr.mul_zero, Cr.add_zero]⟩, ?_⟩, fun hz => ?_⟩
  . rintro y _ ⟨j, rfl, hj, hl2, he2, hy⟩
    dsimp only
    refine ⟨fun hz2 => ?_, fun hz2 => ⟨Jw (by omega) (by omega), ⟨i + 1, by push_cast; rfl, by omega, hl2, he2, ?_⟩, by omega⟩⟩
    . rw [show (i : Int) + (j : Int) = ((i + j : Nat) : Int) by push_cast; rfl]
      refine ⟨Jw (by omega) (by omega), Jw (by omega) (by omega), ⟨by omega, by omega⟩, ⟨by omega, by omega⟩, ⟨by omega, by omega⟩, _, Jbg hF rfl, _, Jor hF rfl, ⟨by omega, by omega⟩, Jw (by omega) (by omega), ⟨j + 1, by push_cast; rfl, by omega, by rw [Qi, List.length_set, hl2], ?_, ?_⟩, by omega⟩
      . exact ell_si he2
      . rw [JG, JG, JG, L_at hff, L_at hhf, Qx, Qx, Qx]
        have e1 : k.pol (si y ((i + j : Nat) : Int) (k.co (k.el (vo y (i + j)) + f i * h j))) = k.pol y + mo (f i * h j) (i + j) := pol_si (by omega)
        rw [e1, hy, Jhk, Cr.mul_add, mo_mo, Cr.add_assoc]
    . rw [hy, show j = b by omega, Jln hhs, Jhk, Cr.add_mul]
  . rw [show i = a by omega, Jln hfs] at hx
    refine Jdg hF (by omega) ?_
    rw [hx]; exact hQ
end
end Go.Proofs.Ytppkigdakobebaa
set_option linter.unusedVariables false
set_option linter.unusedSimpArgs false
namespace Go.Proofs.Ytppkigdakobebaa
open Ks
/-! ### the reference's quotients, values; what the laws ask first -/
section
variable {k : Ks} {F : GFv} {P M : Int} {mf : List Int}
theorem Jfs {rs : List Int} {Q : List Int -> Prop} (hF : FV P M mf k.p k.m k.v) (hn : rs.length <= 1000) (h : Q (k.L (lpf (k.pol rs) rs.length))) : Yi P M mf rs Q := by
  refine ⟨fun x z => ∃ j : Nat, z = j /\ j <= rs.length /\ x = k.L (lpf (k.pol rs) j), fun x z => (rs.length - z).toNat, ⟨0, rfl, Nat.zero_le _, L_one.symm⟩, ?_⟩
  rintro _ _ ⟨j, rfl, hj, rfl⟩
  dsimp only
  refine ⟨fun hz => ?_, fun hz => ?_⟩
  . have l1 := Jr2 (k := k) (Jd2 (k.pol rs) j)
    have e : ([k.co (-(k.el (gi rs (j : Int)))), 1] : List Int) = k.L (lin (k.pol rs j)) := (L_lin _).symm
    refine ⟨⟨by omega, by omega⟩, _, w_rNeg hF rfl, _, Jr4 (k := k) hF (by omega) (by simp) rfl, Jw (by omega) (by omega), ⟨j + 1, by push_cast; rfl, by omega, ?_⟩, by omega⟩
    rw [e, Jpr (Jgi _ _), Jpr (Jgl _).fs]; rfl
  . rw [show j = rs.length by omega]; exact h
end
end Go.Proofs.Ytppkigdakobebaa
set_option linter.unusedSectionVars false
namespace Go.Proofs.Ytppkigdakobebaa
/-! ### counting: how many of the numbers below n have a property -/
section
open Classical
theorem Jil (p : Nat -> Prop) (a : Nat) (ha : p a) : ∀ n, a < n -> ctp p n = ctp (fun i => p i /\ i ≠ a) n + 1
  | 0, h => absurd h (Nat.not_lt_zero a)
  | n + 1, h => by
    unfold ctp
    by_cases e : a = n
    . subst e
      rw [if_pos ha, if_neg (fun q => q.2 rfl), Jb3 (n := a) (q := fun i => p i /\ i ≠ a) fun i hi => ⟨fun x => ⟨x, by omega⟩, fun x => x.1⟩]
    . rw [Jil p a ha n (by omega)]
      by_cases hp : p n
      . rw [if_pos hp, if_pos ⟨hp, fun x => e x.symm⟩]
      . rw [if_neg hp, if_neg (fun q => hp q.1)]
theorem Jmk (n : Nat) : ∀ (k : Nat) (p : Nat -> Prop) (g : Nat -> Nat), (∀ i, i < k -> g i < n /\ p (g i)) -> (∀ i j, i < j -> j < k -> g i ≠ g j) -> k <= ctp p n
  | 0, _, _, _, _ => Nat.zero_le _
  | k + 1, p, g, h, hd => by
    have h0 := h k (by omega)
    rw [Jil p (g k) h0.2 n h0.1]
    have := Jmk n k (fun i => p i /\ i ≠ g k) g (fun i hi => ⟨(h i (by omega)).1, (h i (by omega)).2, hd i k hi (by omega)⟩) (fun i j h1 h2 => hd i j h1 (by omega))
    omega
end
section
variable {α : Type} [Cr α] [Fd α]
/-- the product of the factors for k of the places is 0 at just these -/
theorem Jm3 {n k : Nat} (x : Nat -> α) (hx : ∀ i j, i < j -> j < n -> x i ≠ x j) (g : Nat -> Nat) (hg : ∀ i, i < k -> g i < n) (hd : ∀ i j, i < j -> j < k -> g i ≠ g j) : ctp (fun i => vl_ (lpf (fun i => x (g i)) k) (x i) ≠ 0) n + k = n := by
  have h1 := Jfi (Jd2 (fun i => x (g i)) k) (Jgj _ k).ne x hx
  have h2 := Jmk n k (fun i => vl_ (lpf (fun i => x (g i)) k) (x i) = 0) g (fun i hi => ⟨hg i hi, (Jfw _ _ k).2 ⟨i, hi, rfl⟩⟩) hd
  have h3 := Jg1 (fun i => vl_ (lpf (fun i => x (g i)) k) (x i) = 0) n
  have h4 : ctp (fun i => vl_ (lpf (fun i => x (g i)) k) (x i) ≠ 0) n = ctp (fun i => ¬ vl_ (lpf (fun i => x (g i)) k) (x i) = 0) n := rfl
  omega
end
end Go.Proofs.Ytppkigdakobebaa
set_option linter.unusedSimpArgs false
set_option linter.unusedVariables false
set_option maxRecDepth 4000
set_option maxHeartbeats 4000000
namespace Go.Proofs.Ytppkigdakobebaa
open Go.RowKit
def ZE (Pd : Int) (Md : Int) (md : List Int) (Kd : Int) (da : List Int) (db : List Int) (y : Int) (Q : Bool -> Prop) : Prop :=
  QV  (fun r14 => (((!r14) = true) -> Q false) /\ ((!r14) = false -> (Jca Pd Md md Kd da db (fun r17 => (((!r17) = true) -> Q true) /\ ((!r17) = false -> (((Kd < 1) -> Q true) /\ (¬ (Kd < 1) -> ((I64 (Kd - 1)) /\ (∃ (I36 : List Int -> Int -> Prop) (μ37 : List Int -> Int -> Nat), I36 ([] : List Int) (0 : Int) /\ ∀ (x31 : List Int) (z35 : Int), (I36 x31 z35 -> (((z35 < (Kd - 1)) -> ((((da.length : Int) % 18446744073709551616) ≠ 0) /\ ((I64 ((y % 18446744073709551616).tmod ((da.length : Int) % 18446744073709551616))) /\ ((I64 (z35 + ((y % 18446744073709551616).tmod ((da.length : Int) % 18446744073709551616)))) /\ (((da.length : Int) ≠ 0) /\ ((0 <= ((z35 + ((y % 18446744073709551616).tmod ((da.length : Int) % 18446744073709551616))).tmod (da.length : Int)) /\ ((z35 + ((y % 18446744073709551616).tmod ((da.length : Int) % 18446744073709551616))).tmod (da.length : Int)) < (da.length : Nat)) /\ ((((x31.length : Nat) + (1 : Nat) : Int) * 8 <= 140737488355328) /\ ((I64 (z35 + 1)) /\ (I36 (x31 ++ ([(gi da ((z35 + ((y % 18446744073709551616).tmod ((da.length : Int) % 18446744073709551616))).tmod (da.length : Int)))] : List Int)) (z35 + 1) /\ μ37 (x31 ++ ([(gi da ((z35 + ((y % 18446744073709551616).tmod ((da.length : Int) % 18446744073709551616))).tmod (da.length : Int)))] : List Int)) (z35 + 1) < μ37 x31 z35))))))))) /\ (¬ (z35 < (Kd - 1)) -> (∃ (x79 : List Int), Yi Pd Md md x31 (fun q => q = x79) /\ (∃ (x88 : List Int) (r89 : Int), QC Pd Md md Kd da db x79 (fun q => q = (x88, r89)) /\ (((r89 = 0) -> ((((x88.length : Int) = (da.length : Int)) -> (∃ (r117 : Int), Q4 x88 (fun q => q = r117) /\ ((I64 ((da.length : Int) - Kd)) /\ ((I64 (((da.length : Int) - Kd) + (1 : Int))) /\ (Q (decide (r117 = (((da.length : Int) - Kd) + (1 : Int))))))))) /\ (¬ ((x88.length : Int) = (da.length : Int)) -> Q false))) /\ (¬ (r89 = 0) -> Q false))))))))))))))))
theorem Jgf {w : World} {Q : Bool -> Prop} {Pd : Int} {Md : Int} {md : List Int} {Kd : Int} {da : List Int} {db : List Int} {y : Int} {Bd : Nat} {Ad : Option Addr} {nd kd : Nat} (hd : Rd Bd w 1 Ad nd kd (is md)) {Bda : Nat} {Ada : Option Addr} {nda kda : Nat} (hda : Rd Bda w 1 Ada nda kda (is da)) {Bdb : Nat} {Adb : Option Addr} {ndb kdb : Nat} (hdb : Rd Bdb w 1 Adb ndb kdb (is db)) (hv : ZE Pd Md md Kd da db y Q) :
    Calls Try.prog 14 #[.agg #[.int .i64 Pd, .int .i64 Md, .slice Ad nd kd, .int .i64 Kd, .slice Ada nda kda, .slice Adb ndb kdb], .int .i64 y] w <| Rt w fun v Qr => ∃ (r0 : Bool), v = .bool r0 /\ Qr = [] /\ Q r0 := by
  have hnd := hd.ilen
  subst hnd
  have hnda := hda.ilen
  subst hnda
  have hndb := hdb.ilen
  subst hndb
  refine Jn <| Jl (vs := [.agg #[nI Pd, nI Md, nS Ad md kd, nI Kd, nS Ada da kda, nS Adb db kdb], nI y]) [4] XF14 rfl rfl rfl rfl ?_
  have hS := Jt w
  unfold ZE at hv
  refine Jd 2 <| JH (z := 6) (cs := [nI Pd, nI Md, nS Ad md kd, nI Kd, nS Ada da kda, nS Adb db kdb]) hS rfl rfl rfl rfl ?_
  intro g11 w12 hS
  refine Jc 2 <| Jd 3 <| SL.call hS (Yu  hv) Ji6 rfl Jld rfl rfl ?_
  rintro _ _ w13 ⟨r14, rfl, rfl, hv⟩ hGw13 hS
  have hS := hS.n0
  refine Jc 2 <| Jj rfl (fun c15 => ?_) (fun c15 => ?_)
  .have hv := hv.1 (c15)
   refine Jd 4 <| W.ret <| ⟨_, rfl, Fin.nil ?_⟩
   exact (hS.pick [] rfl).fin rfl ⟨false, rfl, rfl, hv⟩
  have hv := hv.2 (c15)
  refine Jr <| Jd 3 <| JD 0 JQ J7 hS rfl ⟨rfl, rfl⟩ rfl <| SL.call hS (Jgb (hS.ro hd) (hS.ro hda) (hS.ro hdb) hv) XF43 rfl XN43 rfl rfl ?_
  rintro _ _ w16 ⟨r17, rfl, rfl, hv⟩ hGw16 hS
  have hS := hS.n0
  refine Yf rfl rfl <| Jq rfl rfl ?_
  rcases g18 : (!r17) with _ | _
  .have hv := hv.2 g18
   refine WL.take rfl <| Jb (off := 3) Qm rfl rfl <| WL.take rfl <| Jp 0 3 XU3 hS rfl rfl rfl ⟨rfl, rfl⟩ <| Jc 4 <| Jj rfl (fun c19 => ?_) (fun c19 => ?_)
   .have hv := hv.1 (oT c19)
    refine Jd 4 <| W.ret <| ⟨_, rfl, Fin.nil ?_⟩
    exact (hS.pick [] rfl).fin rfl ⟨true, rfl, rfl, hv⟩
   have hv := hv.2 (oF c19)
   refine Jr <| Jd 2 <| Jb (off := 4) Ju rfl rfl <| Jp 0 4 Jh hS rfl rfl rfl ⟨rfl, rfl⟩ <| WL.len Jh rfl rfl <| Jc 2 <| Jd 7 <| Jb (off := 3) Qm rfl rfl <| Jp 0 3 XU3 hS rfl rfl rfl ⟨rfl, rfl⟩ ?_
   obtain ⟨o20, hv⟩ := hv
   refine WL.sub (r := (Kd - 1)) rfl rfl (wr o20) rfl <| Jc 2 <| W.block ?_
   obtain ⟨I36, μ37, hv, hk171⟩ := hv
   have hS := hS.nil (e := 3) (z := 1)
   have hm0 : 0 = ([] : List Int).length := (hS.rd (i := 0) rfl).ilen.symm
   have hS := hS.relen (i := 0) rfl hm0
   change St _ _ _ _ [_, _] at hS
   refine JE (σ := List Int × Int × Option Addr × Nat) (fun q w1 => match q with | (x31, z35, A32, k33) => I36 x31 z35 /\ St TT w none w1 [nR 3 A32 x31 k33, .row 48 6 (nA g11) 1 1 [nI Pd, nI Md, nS Ad md kd, nI Kd, nS Ada da kda, nS Adb db kdb]]) (fun (x31, z35, A32, k33) => [(1, nI y), (2, nP g11), (4, .bool false), (5, nI (da.length : Int)), (6, nS A32 x31 k33), (25, nI (Kd - 1)), (26, nI z35)]) (fun (x31, z35, A32, k33) => μ37 x31 z35) (([] : List Int), (0 : Int), none, 0) ⟨hv, hS⟩ ⟨rfl, rfl, rfl, rfl, (sm (by first | rfl | assumption | omega)), rfl, rfl, trivial⟩ ?_
   rintro ⟨x31, z35, A32, k33⟩ w38 ⟨hv, hS⟩
   have hv := hk171 x31 z35 hv
   refine Jd 5 <| Jj rfl (fun c39 => ?_) (fun c39 => ?_)
   .have hv := hv.1 (oT c39)
    refine Jr <| JA <| W.block <| Jd 5 ?_
    obtain ⟨o49, hv⟩ := hv
    obtain ⟨o51, hv⟩ := hv
    obtain ⟨o53, hv⟩ := hv
    obtain ⟨o56, hv⟩ := hv
    obtain ⟨o58, hv⟩ := hv
    have hS0 := hS
    refine Ye 16 (fun iA => [false, false, false, false, false, false, false, false, false, false, false, false, false, false, false, true].getD iA false) (fun _ => none) (fun _ v u => u = v) [⟨[], [6], true⟩, ⟨[], [2], true⟩, ⟨[1], [], false⟩, ⟨[], [7], true⟩, ⟨[], [1], true⟩, ⟨[4], [], true⟩, ⟨[], [5], true⟩, ⟨[6], [], true⟩, ⟨[5, 7], [], true⟩, ⟨[8], [], true⟩, ⟨[3, 9], [], true⟩, ⟨[], [5], true⟩, ⟨[10, 11], [], true⟩, ⟨[2, 12], [], true⟩, ⟨[13], [], false⟩, ⟨[14], [], false⟩] [.k 29 (nS A32 x31 k33), .k 30 (.pointer (some ((⟨g11, 0, none⟩ : Addr).add 4))), .k 31 (nS Ada da kda), .k 32 (nI z35), .k 33 (nI y), .k 34 (.int .u64 (y % 18446744073709551616)), .k 35 (nI (da.length : Int)), .k 36 (.int .u64 ((da.length : Int) % 18446744073709551616)), .k 37 (.int .u64 ((y % 18446744073709551616).tmod ((da.length : Int) % 18446744073709551616))), .k 38 (nI ((y % 18446744073709551616).tmod ((da.length : Int) % 18446744073709551616))), .k 39 (nI (z35 + ((y % 18446744073709551616).tmod ((da.length : Int) % 18446744073709551616)))), .k 40 (nI (da.length : Int)), .k 41 (nI ((z35 + ((y % 18446744073709551616).tmod ((da.length : Int) % 18446744073709551616))).tmod (da.length : Int))), .k 42 (.pointer (some ((JU Ada).add (((z35 + ((y % 18446744073709551616).tmod ((da.length : Int) % 18446744073709551616))).tmod (da.length : Int)).toNat)))), .k 43 (nI (gi da ((z35 + ((y % 18446744073709551616).tmod ((da.length : Int) % 18446744073709551616))).tmod (da.length : Int)))), eS w38 44 3 1 (is ([(gi da ((z35 + ((y % 18446744073709551616).tmod ((da.length : Int) % 18446744073709551616))).tmod (da.length : Int)))] : List Int))] (fun _ => vbD) Try.mixed (by kernel_rfl) rfl rfl (fun _ _ _ _ _ _ _ h => h) ?_ ?_
    . refine ⟨oC, fun _ _ _ => Jb (off := 4) Ju rfl rfl <| Ja ⟨rfl, rfl⟩, og hS fun _ _ hS => Jp 1 4 Jh hS rfl rfl rfl ⟨rfl, rfl⟩ <| Ja ⟨rfl, Jg _⟩, oC, oC, fun _ _ _ => Jg8 (r := (y % 18446744073709551616)) XU3 XU68 rfl (wu64m rfl) rfl <| Ja ⟨rfl, rfl⟩, oC, fun _ _ _ => Jg8 (r := ((da.length : Int) % 18446744073709551616)) XU3 XU68 rfl (wu64m rfl) rfl <| Ja ⟨rfl, rfl⟩, fun _ _ _ => QD (r := ((y % 18446744073709551616).tmod ((da.length : Int) % 18446744073709551616))) rfl rfl o49 rfl rfl <| Ja ⟨rfl, rfl⟩, fun _ _ _ => Jg8 (r := ((y % 18446744073709551616).tmod ((da.length : Int) % 18446744073709551616))) XU68 XU3 rfl (wr o51) rfl <| Ja ⟨rfl, rfl⟩, fun _ _ _ => WL.add (r := (z35 + ((y % 18446744073709551616).tmod ((da.length : Int) % 18446744073709551616)))) rfl rfl (wr o53) rfl <| Ja ⟨rfl, rfl⟩, oC, fun _ _ _ => QD (r := ((z35 + ((y % 18446744073709551616).tmod ((da.length : Int) % 18446744073709551616))).tmod (da.length : Int))) rfl rfl o56 rfl rfl <| Ja ⟨rfl, rfl⟩, fun _ _ _ => Jo Jh XE3 (hS.ro hda) rfl rfl o58 rfl <| Ja ⟨rfl, rfl⟩, og hS fun _ _ hS => Js XU3 rfl rfl (JJ (hS.ro hda) o58) rfl <| Ja ⟨rfl, Jg _⟩, ?_, trivial⟩
      intro w60 hE
      have hE := hE rfl
      have hS := hS.grow hE
      intro RR
      refine Jdf (vs := is ([(gi da ((z35 + ((y % 18446744073709551616).tmod ((da.length : Int) % 18446744073709551616))).tmod (da.length : Int)))] : List Int)) Jh XE3 rfl rfl rfl rfl (Jm _) rfl ?_
      intro A61 k64 w62 hO65 hN66g hGw62
      have hN66 : ∀ g, bl A61 = some g -> _ <= g := fun g hg => Nat.le_trans hE.size (hN66g g hg)
      exact Ja ⟨_, rfl, hGw62, ⟨A61, k64, rfl, hO65, hN66⟩, (fun _ => fun g hg => ⟨hN66g g hg, (hO65.bl_ge g hg).2⟩), (fun j h => by cases h)⟩
    intro vals w67 hT hVs hAp hCp
    have hS := hS.grow hT
    obtain ⟨A61_15, k64_15, hv15, hO65_15, hN66_15⟩ := hVs 15 (by decide)
    have hS := JX [] hS0 hS hO65_15 hN66_15 (fun s hs => by cases hs)
    refine Yg [(15, .slice A61_15 1 k64_15)] ⟨hv15, trivial⟩ <| Je 16 rfl ?_
    obtain ⟨o69, hv⟩ := hv
    refine SL.append (cs := is x31) (cs' := is ([(gi da ((z35 + ((y % 18446744073709551616).tmod ((da.length : Int) % 18446744073709551616))).tmod (da.length : Int)))] : List Int)) 1 ((x31 ++ ([(gi da ((z35 + ((y % 18446744073709551616).tmod ((da.length : Int) % 18446744073709551616))).tmod (da.length : Int)))] : List Int)).length) (is (x31 ++ ([(gi da ((z35 + ((y % 18446744073709551616).tmod ((da.length : Int) % 18446744073709551616))).tmod (da.length : Int)))] : List Int))) hS rfl Jh XE3 (hS.rd (i := 0) rfl) (Jm _) rfl rfl (apk o69).1 (apk o69).2 (Jy (hS.rd (i := 1) rfl) (hS.rd (i := 0) rfl)) (Ji _ _) rfl ?_
    intro A70 k71 w72 hS
    refine Ja <| Je 17 rfl <| Jc 2 <| JC <| JI ?_
    obtain ⟨o73, hv⟩ := hv
    refine WL.add (r := (z35 + 1)) rfl rfl (wr o73) rfl <| Jc 2 ?_
    have hS := hS.pick [1, 2] rfl
    exact ⟨(x31 ++ ([(gi da ((z35 + ((y % 18446744073709551616).tmod ((da.length : Int) % 18446744073709551616))).tmod (da.length : Int)))] : List Int), (z35 + 1), A70, k71), sp rfl, hv.2, rfl, hv.1, hS⟩
   have hv := hv.2 (oF c39)
   refine JB <| JA ?_
   obtain ⟨x79, o86, hv⟩ := hv
   obtain ⟨x88, r89, o96, hv⟩ := hv
   have hS0 := hS
   refine Ye 11 (fun iA => [false, false, false, false, true, true, false, false, false, false, false].getD iA false) (fun iC => match iC with | 6 => some 5 | 7 => some 6 | 9 => some 7 | _ => none) (fun iP v_ u_ => match iP with | 7 => u_ = exT 0 v_ | _ => u_ = v_) [⟨[], [2], false⟩, ⟨[], [2], true⟩, ⟨[1], [], false⟩, ⟨[], [6], true⟩, ⟨[2, 3], [], false⟩, ⟨[0, 4], [], false⟩, ⟨[5], [], true⟩, ⟨[6], [], true⟩, ⟨[6], [], true⟩, ⟨[7], [], true⟩, ⟨[8], [], true⟩] [.k 48 (.agg #[nI Pd, nI Md, nS Ad md kd, nI Kd, nS Ada da kda, nS Adb db kdb]), .k 49 (nP g11), .k 50 (.agg #[nI Pd, nI Md, nS Ad md kd]), .k 51 (nS A32 x31 k33), eS w38 52 3 x79.length (is x79), eO w38 53 3 x88.length (fun A90_5 k91_5 => .tuple #[nS A90_5 x88 k91_5, nI r89]) (is x88), eO w38 47 3 x88.length (fun A90_5_6 k91_5_6 => .tuple #[nS A90_5_6 x88 k91_5_6, nI r89]) (is x88), eS w38 54 3 x88.length (is x88), .k 55 (nI r89), eS w38 8 3 x88.length (is x88), .k 9 (nI r89)] (fun iD => [vbD, vbD, vbD, vbD, vbD, vbT, vbD, vbD, vbD, vbD, vbD].getD iD vbD) Try.mixed (by kernel_rfl) rfl rfl ?_ ?_ ?_
   . intro jD vD w1D w2D hvD hgD gD hD_
     rcases jD with _ | _ | _ | _ | _ | _ | _ | _ | _ | _ | _ | jD
     any_goals exact hD_
   . refine ⟨og hS fun _ _ hS => JD 1 JQ J7 hS rfl ⟨rfl, rfl⟩ rfl <| Ja ⟨rfl, Jg _⟩, fun _ _ _ => Jb (off := 0) Qf rfl rfl <| Ja ⟨rfl, rfl⟩, og hS fun _ _ hS => J4 (cs := [nI Pd, nI Md, nS Ad md kd]) JW J0 rfl rfl (QE (hS.rd (i := 1) rfl) 0 rfl) rfl <| Ja ⟨rfl, Jg _⟩, oC, ?_, ?_, ?_, ?_, ?_, ?_, oC, trivial⟩
     . intro w78 hE
       have hE := hE rfl
       have hS := hS.grow hE
       intro RR
       refine WL.call XF46 rfl XN46 rfl rfl (JF (Jeu (hS.ro hd) (hS.rd (i := 0) rfl) o86)) ?_
       rintro _ w83 ⟨_, hGw83, hRww83, hNww83, x79q, A80, k81, rfl, rfl, he⟩
       subst he
       have hO84 := (hRww83.get (i := 0) rfl).1
       have hN85 : ∀ g, bl A80 = some g -> _ <= g := fun g hg => Nat.le_trans hE.size (hNww83.1 g hg)
       exact Ja ⟨_, rfl, hGw83, ⟨A80, k81, rfl, hO84, hN85⟩, (fun _ => fun g hg => ⟨hNww83.1 g hg, (hO84.bl_ge g hg).2⟩), (fun j h => by cases h)⟩
     . intro w87 hE
       have hE := hE rfl
       have hS := hS.grow hE
       rintro _ ⟨A80_4, k81_4, rfl, hO84_4, hN85_4⟩
       intro RR
       refine WL.call Jle rfl Joa rfl rfl (JF (Q2 (hS.ro hd) (hS.ro hda) (hS.ro hdb) hO84_4.rd o96)) ?_
       rintro _ w93 ⟨_, hGw93, hRww93, hNww93, x88q, r89q, A90, k91, rfl, rfl, he⟩
       cases he
       have hO94 := (hRww93.get (i := 0) rfl).1
       have hN95 : ∀ g, bl A90 = some g -> _ <= g := fun g hg => Nat.le_trans hE.size (hNww93.1 g hg)
       exact Ja ⟨_, rfl, hGw93, ⟨A90, k91, rfl, hO94, hN95⟩, (fun _ => fun g hg => ⟨hNww93.1 g hg, (hO94.bl_ge g hg).2⟩), (fun j h => by cases h)⟩
     . intro w97 hE
       rintro _ ⟨A90_5, k91_5, rfl, hO94_5, hN95_5⟩
       intro RR
       refine Jq rfl rfl ?_
       exact Ja ⟨_, rfl, rfl, ⟨A90_5, k91_5, rfl, hO94_5, hN95_5⟩, (fun h => absurd h (by decide)), (fun j h => by cases h; exact ⟨_, rfl, rfl⟩)⟩
     . intro w98 hE
       rintro _ ⟨A90_5_6, k91_5_6, rfl, hO94_5_6, hN95_5_6⟩
       intro RR
       refine Jah rfl rfl rfl ?_
       exact Ja ⟨_, rfl, rfl, ⟨A90_5_6, k91_5_6, rfl, hO94_5_6, hN95_5_6⟩, (fun h => absurd h (by decide)), (fun j h => by cases h; exact ⟨_, rfl, rfl⟩)⟩
     . intro w99 hE
       rintro _ ⟨A90_5_6, k91_5_6, rfl, hO94_5_6, hN95_5_6⟩
       intro RR
       refine Jah rfl rfl rfl ?_
       exact Ja ⟨rfl, rfl⟩
     intro w100 hE
     rintro _ ⟨A90_5_6_7, k91_5_6_7, rfl, hO94_5_6_7, hN95_5_6_7⟩
     intro RR
     refine Qk rfl rfl ?_
     exact Ja ⟨_, rfl, rfl, ⟨A90_5_6_7, k91_5_6_7, rfl, hO94_5_6_7, hN95_5_6_7⟩, (fun h => absurd h (by decide)), (fun j h => by cases h; exact ⟨_, rfl, rfl⟩)⟩
   intro vals w102 hT hVs hAp hCp
   have hS := hS.grow hT
   obtain ⟨A80_4, k81_4, hv4, hO84_4, hN85_4⟩ := hVs 4 (by decide)
   obtain ⟨A90_5, k91_5, hv5, hO94_5, hN95_5⟩ := hVs 5 (by decide)
   have hv6 : vals 6 = .tuple #[nS A90_5 x88 k91_5, nI r89] := (hCp 6 5 (by decide) rfl).trans hv5
   have hv7 : vals 7 = nS A90_5 x88 k91_5 := (hCp 7 6 (by decide) rfl).trans (congrArg (fun v_ : Value => (exT 0 v_ : Value)) hv6)
   have hv9 : vals 9 = nS A90_5 x88 k91_5 := (hCp 9 7 (by decide) rfl).trans hv7
   have hS := JX [] hS0 hS hO94_5 hN95_5 (fun s hs => by cases hs)
   refine Yg [(4, nS A80_4 x79 k81_4), (5, .tuple #[nS A90_5 x88 k91_5, nI r89]), (6, .tuple #[nS A90_5 x88 k91_5, nI r89]), (7, nS A90_5 x88 k91_5), (9, nS A90_5 x88 k91_5)] ⟨hv4, hv5, hv6, hv7, hv9, trivial⟩ <| JC <| JA ?_
   by_cases g104 : r89 = 0
   .have hv := hv.1 g104
    by_cases g105 : (x88.length : Int) = (da.length : Int)
    .have hv := hv.1 g105
     obtain ⟨r117, o119, hv⟩ := hv
     obtain ⟨o124, hv⟩ := hv
     obtain ⟨o126, hv⟩ := hv
     refine JK 19 [⟨[], [9], true⟩, ⟨[0], [], true⟩, ⟨[1], [], true⟩, ⟨[2], [8], true⟩, ⟨[2, 3], [], true⟩, ⟨[2], [5], true⟩, ⟨[2, 4, 5], [], true⟩, ⟨[2, 6], [], true⟩, ⟨[7], [], true⟩, ⟨[8], [8], true⟩, ⟨[8, 9], [], false⟩, ⟨[8], [5], true⟩, ⟨[8], [2], true⟩, ⟨[8, 12], [], false⟩, ⟨[8, 11, 13], [], true⟩, ⟨[8, 14], [], true⟩, ⟨[8, 10, 15], [], true⟩, ⟨[8, 16], [], true⟩, ⟨[17], [], true⟩] [(56, nI r89), (57, .bool true), (58, .bool true), (59, nS A90_5 x88 k91_5), (60, nI (x88.length : Int)), (61, nI (da.length : Int)), (62, .bool true), (63, .bool true), (64, .bool true), (65, nS A90_5 x88 k91_5), (66, nI r117), (67, nI (da.length : Int)), (68, .pointer (some ((⟨g11, 0, none⟩ : Addr).add 3))), (69, nI Kd), (70, nI ((da.length : Int) - Kd)), (71, nI (((da.length : Int) - Kd) + (1 : Int))), (72, .bool (decide (r117 = (((da.length : Int) - Kd) + (1 : Int))))), (73, .bool (decide (r117 = (((da.length : Int) - Kd) + (1 : Int))))), (4, .bool (decide (r117 = (((da.length : Int) - Kd) + (1 : Int)))))] Try.mixed (by kernel_rfl) rfl rfl ?_ ?_
     . refine ⟨oD, ?_, oD, oD, fun _ _ _ => WL.take rfl <| WL.len Jh rfl rfl <| Ja ⟨rfl, rfl⟩, oD, ?_, oD, oD, oD, ?_, oD, fun _ _ _ => WL.take rfl <| Jb (off := 3) Qm rfl rfl <| Ja ⟨rfl, rfl⟩, og hS fun _ _ hS => WL.take rfl <| Jp 2 3 XU3 hS rfl rfl rfl ⟨rfl, rfl⟩ <| Ja ⟨rfl, Jg _⟩, fun _ _ _ => WL.take rfl <| WL.sub (r := ((da.length : Int) - Kd)) rfl rfl (wr o124) rfl <| Ja ⟨rfl, rfl⟩, fun _ _ _ => WL.take rfl <| WL.add (r := (((da.length : Int) - Kd) + (1 : Int))) rfl rfl (wr o126) rfl <| Ja ⟨rfl, rfl⟩, oD, oD, oD, trivial⟩
       . intro w107 hE RR
         refine Qn rfl rfl rfl ?_; rw [decide_eq_true g104]
         exact Ja ⟨rfl, rfl⟩
       . intro w112 hE RR
         refine WL.take rfl <| Qn rfl rfl rfl ?_; rw [decide_eq_true g105]
         exact Ja ⟨rfl, rfl⟩
       intro w116 hE RR
       have hS := hS.grow (hE rfl)
       refine WL.take rfl <| WL.call XF45 rfl XN45 rfl rfl (JF (Zo (hS.rd (i := 0) rfl) o119)) ?_
       rintro _ w118 ⟨_, hGw118, hRww118, hNww118, r117q, rfl, rfl, he⟩
       subst he
       exact Ja ⟨rfl, hGw118⟩
     intro w130 hT
     have hS := hS.grow hT
     refine JC <| W.ret <| ⟨_, rfl, Fin.nil ?_⟩
     exact (hS.pick [] rfl).fin rfl ⟨(decide (r117 = (((da.length : Int) - Kd) + (1 : Int)))), rfl, rfl, hv⟩
    have hv := hv.2 g105
    refine JK 19 [⟨[], [9], true⟩, ⟨[0], [], true⟩, ⟨[1], [], true⟩, ⟨[2], [8], true⟩, ⟨[2, 3], [], true⟩, ⟨[2], [5], true⟩, ⟨[2, 4, 5], [], true⟩, ⟨[2, 6], [], true⟩, ⟨[7], [], true⟩, ⟨[8], [8], true⟩, ⟨[8, 9], [], false⟩, ⟨[8], [5], true⟩, ⟨[8], [2], true⟩, ⟨[8, 12], [], false⟩, ⟨[8, 11, 13], [], true⟩, ⟨[8, 14], [], true⟩, ⟨[8, 10, 15], [], true⟩, ⟨[8, 16], [], true⟩, ⟨[17], [], true⟩] [(56, nI r89), (57, .bool true), (58, .bool true), (59, nS A90_5 x88 k91_5), (60, nI (x88.length : Int)), (61, nI (da.length : Int)), (62, .bool false), (63, .bool false), (64, .bool false), (65, undef), (66, undef), (67, undef), (68, undef), (69, undef), (70, undef), (71, undef), (72, undef), (73, .bool false), (4, .bool false)] Try.mixed (by kernel_rfl) rfl rfl ?_ ?_
    . refine ⟨oD, ?_, oD, oD, fun _ _ _ => WL.take rfl <| WL.len Jh rfl rfl <| Ja ⟨rfl, rfl⟩, oD, ?_, oD, oD, oD, oD, oD, oD, oD, oD, oD, oD, oD, oD, trivial⟩
      . intro w132 hE RR
        refine Qn rfl rfl rfl ?_; rw [decide_eq_true g104]
        exact Ja ⟨rfl, rfl⟩
      intro w137 hE RR
      refine WL.take rfl <| Qn rfl rfl rfl ?_; rw [decide_eq_false g105]
      exact Ja ⟨rfl, rfl⟩
    intro w150 hT
    have hS := hS.grow hT
    refine JC <| W.ret <| ⟨_, rfl, Fin.nil ?_⟩
    exact (hS.pick [] rfl).fin rfl ⟨false, rfl, rfl, hv⟩
   have hv := hv.2 g104
   refine JK 19 [⟨[], [9], true⟩, ⟨[0], [], true⟩, ⟨[1], [], true⟩, ⟨[2], [8], true⟩, ⟨[2, 3], [], true⟩, ⟨[2], [5], true⟩, ⟨[2, 4, 5], [], true⟩, ⟨[2, 6], [], true⟩, ⟨[7], [], true⟩, ⟨[8], [8], true⟩, ⟨[8, 9], [], false⟩, ⟨[8], [5], true⟩, ⟨[8], [2], true⟩, ⟨[8, 12], [], false⟩, ⟨[8, 11, 13], [], true⟩, ⟨[8, 14], [], true⟩, ⟨[8, 10, 15], [], true⟩, ⟨[8, 16], [], true⟩, ⟨[17], [], true⟩] [(56, nI r89), (57, .bool false), (58, .bool false), (59, undef), (60, undef), (61, undef), (62, undef), (63, .bool false), (64, .bool false), (65, undef), (66, undef), (67, undef), (68, undef), (69, undef), (70, undef), (71, undef), (72, undef), (73, .bool false), (4, .bool false)] Try.mixed (by kernel_rfl) rfl rfl ?_ ?_
   . refine ⟨oD, ?_, oD, oD, oD, oD, oD, oD, oD, oD, oD, oD, oD, oD, oD, oD, oD, oD, oD, trivial⟩
     intro w152 hE RR
     refine Qn rfl rfl rfl ?_; rw [decide_eq_false g104]
     exact Ja ⟨rfl, rfl⟩
   intro w170 hT
   have hS := hS.grow hT
   refine JC <| W.ret <| ⟨_, rfl, Fin.nil ?_⟩
   exact (hS.pick [] rfl).fin rfl ⟨false, rfl, rfl, hv⟩
  have hv := hv.1 g18
  refine Jc 5 <| JP rfl <| Jd 4 <| W.ret <| ⟨_, rfl, Fin.nil ?_⟩
  exact (hS.pick [] rfl).fin rfl ⟨true, rfl, rfl, hv⟩
end Go.Proofs.Ytppkigdakobebaa
set_option linter.unusedVariables false
set_option linter.unusedSimpArgs false
namespace Go.Proofs.Ytppkigdakobebaa
open Ks
/-! ### generalized Reed-Solomon codes: the laws -/
section
variable {P M : Int} {mf : List Int} {k k' : Ks} {F : GFv} {K : Int} {da db : List Int}
theorem Jfg {r r' : Nat -> k.E} : ∀ {n : Nat}, (∀ i, i < n -> r i = r' i) -> lpf r n = lpf r' n
  | 0, _ => rfl
  | n + 1, h => by
    show lpf r n * lin (r n) = lpf r' n * lin (r' n)
    rw [Jfg fun i hi => h i (by omega), h n (by omega)]
def RT (da : List Int) (t n j : Nat) : List Int := (List.range j).map fun i : Nat => vo da ((i + t) % n)
theorem Jt2 (t n j : Nat) : RT da t n j ++ [vo da ((j + t) % n)] = RT da t n (j + 1) := by unfold RT; rw [List.range_succ, List.map_append]; rfl
theorem RT_len (t n j : Nat) : (RT da t n j).length = j := by simp [RT]
theorem RT_at {t n j i : Nat} (h : i < j) : vo (RT da t n j) i = vo da ((i + t) % n) := by unfold RT; rw [Zm (fun i : Nat => vo da ((i + t) % n)), if_pos h]
theorem Jk9 {t n i j : Nat} (hij : i < j) (hj : j < n) : (i + t) % n ≠ (j + t) % n := fun e => by
  have := Nat.sub_mod_eq_zero_of_mod_eq e.symm
  rw [Nat.mod_eq_of_lt (by omega)] at this
  omega
theorem Jcp (P M : Int) (mf : List Int) (K : Int) (da db : List Int) (y : Int) : ZE P M mf K da db y (fun b => b = true) := by
  refine YG (zT (Jjj (fun h24 hz => zT ⟨fun _ => rfl, fun hK => ?_⟩) fun _ => zF rfl))
  obtain ⟨k, hF⟩ := Jh5 (Qs hz)
  have G := Jes hF hz
  have hV := Qs hz
  have k0 := G.k0; have kn := G.kn; have hlen := G.len; have n1 := G.n1
  have ho := hF.ord
  refine ⟨Jw (by omega) (by omega), ?_⟩
  have hd : ((da.length : Int) % 18446744073709551616) = (da.length : Int) := by omega
  rw [hd]
  have hT : ∃ t : Nat, t < da.length /\ (y % 18446744073709551616).tmod (da.length : Int) = (t : Int) := by
    rw [Int.tmod_eq_emod_of_nonneg (by omega)]
    have h1 := Int.emod_nonneg (y % 18446744073709551616) (show (da.length : Int) ≠ 0 by omega)
    have h2 := Int.emod_lt_of_pos (y % 18446744073709551616) (show (0 : Int) < (da.length : Int) by omega)
    exact ⟨((y % 18446744073709551616) % (da.length : Int)).toNat, by omega, by omega⟩
  obtain ⟨t, ht, hT⟩ := hT
  rw [hT]
  have hi : ∀ j : Nat, (((j : Int) + (t : Int))).tmod (da.length : Int) = (((j + t) % da.length : Nat) : Int) := fun j => by
    rw [Int.tmod_eq_emod_of_nonneg (by omega)]; push_cast; rfl
  have hm : ∀ j : Nat, (j + t) % da.length < da.length := fun j => Nat.mod_lt _ (by omega)
  obtain ⟨s, hs⟩ := Int.eq_ofNat_of_zero_le (show 0 <= K - 1 by omega)
  have hs' : K - 1 = (s : Int) := hs
  rw [hs']
  refine ⟨fun x z => ∃ j : Nat, z = j /\ j <= s /\ x = RT da t da.length j, fun _ z => ((s : Int) - z).toNat, ⟨0, rfl, Nat.zero_le _, rfl⟩, ?_⟩
  rintro _ _ ⟨j, rfl, hj, rfl⟩
  have hrl := RT_len (da := da) t da.length j
  refine ⟨fun hlt => ?_, fun hge => ?_⟩
  . rw [hi j, JG]
    have := hm j
    exact ⟨by omega, Jw (by omega) (by omega), Jw (by omega) (by omega), by omega, ⟨by omega, by omega⟩, by omega, Jw (by omega) (by omega), ⟨j + 1, by push_cast; rfl, by omega, Jt2 _ _ _⟩, by show ((s : Int) - ((j : Int) + 1)).toNat < ((s : Int) - (j : Int)).toNat; omega⟩
  . have : j = s := by omega
    subst this
    have hdg := Jgj (k.pol (RT da t da.length j)) j
    have hL := L_dg (k := k) hdg
    refine ⟨_, Jfs hF (by omega) rfl, GW k da db (k.pol (k.L (lpf (k.pol (RT da t da.length j)) j))), 0, ?_, ?_⟩
    . rw [hrl]
      refine Ym (by omega) (fun c => absurd hz c) (fun _ c => absurd (by omega) c) (fun _ _ c => absurd (fun x hx => ?_) c) fun k2 hF2 G2 _ _ => by rw [GW_k _ hF2 hF]
      obtain ⟨i, hi, rfl⟩ := Ql.1 hx
      rw [ho, L_at hdg.fs]; exact Jin _
    . refine tq rfl (tq (by rw [QW]) ⟨_, Z5 (by rw [QW]; omega) rfl, Jw (by omega) (by omega), Jw (by omega) (by omega), decide_eq_true ?_⟩)
      rw [QW, GW_wt G, Jpr hdg.fs]
      have e : lpf (k.pol (RT da t da.length j)) j = lpf (fun i => k.el (vo da ((i + t) % da.length))) j := Jfg fun i hi => by
        show k.el (vo _ i) = _
        rw [RT_at hi]
      rw [e]
      have := Jm3 (n := da.length) (k := j) (fun i => k.el (vo da i)) (fun i j hij hj => G.el_ne (by omega) (by omega) (by omega)) (fun i => (i + t) % da.length) (fun i hi => hm i) (fun i i' h1 h2 => Jk9 h1 (by omega))
      omega
end
end Go.Proofs.Ytppkigdakobebaa
