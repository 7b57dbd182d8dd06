/- What only this law leans on. -/
import Derived.Test.YtppkigdakobebaaGrsChecksG7
set_option linter.unusedSimpArgs false
set_option linter.unusedVariables false
namespace Go.Proofs.Ytppkigdakobebaa
open Go.RowKit
theorem dnq {A B E : Prop} {al : Bool} {cp : Option Nat} {K : Nat -> Prop} (hA : A) (hB : B) (h1 : al = false) (h2 : cp = none) : A /\ B /\ (al = true -> E) /\ (∀ j, cp = some j -> K j) := ⟨hA, hB, (fun h => by rw [h1] at h; cases h), (fun j h => by rw [h2] at h; cases h)⟩
section
variable {w w' : World} {A : Option Addr} {n k : Nat} {hs : Hs} {ls : List (List Int)}
end
section
variable {w w' : World} {A : Option Addr} {n k : Nat} {H : HM} {ms : List Mt}
end
section
variable {w w' : World} {A : Option Addr} {eS eI m c : Nat} {hs : Hs} {ls : List (List Int)} {b : Nat} {mr : Option Nat}
end
section
variable {X : World -> Prop} {w0 w w' wS : World} {mr : Option Nat} {R R0 : List Rw} {eS eI m c : Nat} {A : Option Addr} {hs : Hs} {ls : List (List Int)}
end
section
variable {P : Program} {n : Nat} {ro : Option Nat} {df : List Deferred} {N : J2} {L : Fr} {w w0 : World} {ops : Array Oper} {rest : List Oper}
variable {d : Nat} {ty : TypeId} {pos : String} {af : Array Edge} {X : World -> Prop} {mr : Option Nat} {R : List Rw} {eS eI m c : Nat} {A : Option Addr} {hs : Hs} {ls : List (List Int)}
end
end Go.Proofs.Ytppkigdakobebaa
set_option linter.unusedVariables false
namespace Go.Proofs.Ytppkigdakobebaa
open Go.RowKit
theorem Try.nm42 : (Try.f42.name == "runtime.NumGoroutine") = false := by kernel_rfl
theorem Try.nm87 : (Try.f87.name == "runtime.NumGoroutine") = false := by kernel_rfl
theorem Try.nm88 : (Try.f88.name == "runtime.NumGoroutine") = false := by kernel_rfl
end Go.Proofs.Ytppkigdakobebaa
namespace Go.Proofs.Ytppkigdakobebaa
open Go.RowKit
abbrev XF11 := Try.func11
abbrev XF42 := Try.func42
abbrev XF87 := Try.func87
abbrev XF88 := Try.func88
abbrev XN42 := Try.nm42
abbrev XN87 := Try.nm87
abbrev XN88 := Try.nm88
end Go.Proofs.Ytppkigdakobebaa
set_option linter.unusedSimpArgs false
set_option linter.unusedVariables false
set_option maxRecDepth 4000
set_option maxHeartbeats 4000000
namespace Go.Proofs.Ytppkigdakobebaa
open Go.RowKit
def Jel (Pf : Int) (Mf : Int) (mf : List Int) (x : Int) (y : Int) (Q : Int -> Prop) : Prop :=
  ∃ (r18 : Int), Jb9 Pf Mf mf y (fun q => q = r18) /\ (∃ (r22 : Int), ZC Pf Mf mf x r18 (fun q => q = r22) /\ Q r22)
theorem Jsm {w : World} {Q : Int -> Prop} {Pf : Int} {Mf : Int} {mf : List Int} {x : Int} {y : Int} {Bf : Nat} {Af : Option Addr} {nf kf : Nat} (hf : Rd Bf w 1 Af nf kf (is mf)) (hv : Jel Pf Mf mf x y Q) :
    Calls Try.prog 87 #[.agg #[.int .i64 Pf, .int .i64 Mf, .slice Af nf kf], .int .i64 x, .int .i64 y] w <| Rt w fun v Qr => ∃ (r0 : Int), v = .int .i64 r0 /\ Qr = [] /\ Q r0 := by
  have hnf := hf.ilen
  subst hnf
  refine Jn <| Jl (vs := [.agg #[nI Pf, nI Mf, nS Af mf kf], nI x, nI y]) [6] XF87 rfl rfl rfl rfl ?_
  have hS := Jt w
  unfold Jel at hv
  refine Jd 2 <| JH (z := 3) (cs := [nI Pf, nI Mf, nS Af mf kf]) hS rfl rfl rfl rfl ?_
  intro g11 w12 hS
  refine Jc 2 <| JA ?_
  obtain ⟨r18, o20, hv⟩ := hv
  obtain ⟨r22, o24, hv⟩ := hv
  refine JK 7 [⟨[], [3], false⟩, ⟨[], [1], true⟩, ⟨[], [3], false⟩, ⟨[], [2], true⟩, ⟨[2, 3], [], false⟩, ⟨[0, 1, 4], [], false⟩, ⟨[5], [], true⟩] [(7, .agg #[nI Pf, nI Mf, nS Af mf kf]), (8, nI x), (9, .agg #[nI Pf, nI Mf, nS Af mf kf]), (10, nI y), (11, nI r18), (12, nI r22), (6, nI r22)] Try.mixed (by kernel_rfl) rfl rfl ?_ ?_
  . refine ⟨og hS fun _ _ hS => JD 0 JW J0 hS rfl ⟨rfl, rfl⟩ rfl <| Ja ⟨rfl, Jg _⟩, oD, og hS fun _ _ hS => JD 0 JW J0 hS rfl ⟨rfl, rfl⟩ rfl <| Ja ⟨rfl, Jg _⟩, oD, ?_, ?_, oD, trivial⟩
    . intro w17 hE RR
      have hS := hS.grow (hE rfl)
      refine WL.call XF91 rfl XN91 rfl rfl (JF (Jl3 (hS.ro hf) o20)) ?_
      rintro _ w19 ⟨_, hGw19, hRww19, hNww19, r18q, rfl, rfl, he⟩
      subst he
      exact Ja ⟨rfl, hGw19⟩
    intro w21 hE RR
    have hS := hS.grow (hE rfl)
    refine WL.call XF89 rfl XN89 rfl rfl (JF (Jc7 (hS.ro hf) o24)) ?_
    rintro _ w23 ⟨_, hGw23, hRww23, hNww23, r22q, rfl, rfl, he⟩
    subst he
    exact Ja ⟨rfl, hGw23⟩
  intro w26 hT
  have hS := hS.grow hT
  refine JC <| W.ret <| ⟨_, rfl, Fin.nil ?_⟩
  exact (hS.pick [] rfl).fin rfl ⟨r22, rfl, rfl, hv⟩
def Jha (Pf : Int) (Mf : Int) (mf : List Int) (x : Int) (Q : Int -> Prop) : Prop :=
  ∃ (I16 : Int -> Prop) (μ17 : Int -> Nat), I16 1 /\ ∀ (z15 : Int), (I16 z15 -> (YB Pf Mf mf (fun r20 => ((z15 < r20) -> (YC Pf Mf mf x z15 (fun r23 => ((r23 = 1) -> Q z15) /\ (¬ (r23 = 1) -> ((I64 (z15 + 1)) /\ (I16 (z15 + 1) /\ μ17 (z15 + 1) < μ17 z15)))))) /\ (¬ (z15 < r20) -> (Q 0)))))
theorem Jsn {w : World} {Q : Int -> Prop} {Pf : Int} {Mf : Int} {mf : List Int} {x : Int} {Bf : Nat} {Af : Option Addr} {nf kf : Nat} (hf : Rd Bf w 1 Af nf kf (is mf)) (hv : Jha Pf Mf mf x Q) :
    Calls Try.prog 88 #[.agg #[.int .i64 Pf, .int .i64 Mf, .slice Af nf kf], .int .i64 x] w <| Rt w fun v Qr => ∃ (r0 : Int), v = .int .i64 r0 /\ Qr = [] /\ Q r0 := by
  have hnf := hf.ilen
  subst hnf
  refine Jn <| Jl (vs := [.agg #[nI Pf, nI Mf, nS Af mf kf], nI x]) [4] XF88 rfl rfl rfl rfl ?_
  have hS := Jt w
  unfold Jha at hv
  refine Jd 2 <| JH (z := 3) (cs := [nI Pf, nI Mf, nS Af mf kf]) hS rfl rfl rfl rfl ?_
  intro g11 w12 hS
  refine Jc 2 <| Jd 5 <| W.block ?_
  obtain ⟨I16, μ17, hv, hk26⟩ := hv
  refine JE (σ := Int) (fun z15 w1 => I16 z15 /\ St TT w none w1 [.row 24 3 (nA g11) 1 1 [nI Pf, nI Mf, nS Af mf kf]]) (fun z15 => [(1, nI x), (2, nP g11), (4, nI 0), (5, nI z15)]) (fun z15 => μ17 z15) (1 : Int) ⟨hv, hS⟩ ⟨rfl, rfl, rfl, rfl, trivial⟩ ?_
  rintro z15 w18 ⟨hv, hS⟩
  have hv := hk26 z15 hv
  refine Jd 4 <| JD 0 JW J0 hS rfl ⟨rfl, rfl⟩ rfl <| SL.call hS (ZK (hS.ro hf) hv) XF33 rfl XN33 rfl rfl ?_
  rintro _ _ w19 ⟨r20, rfl, rfl, hv⟩ hGw19 hS
  have hS := hS.n0
  refine Jc 2 <| Jj rfl (fun c21 => ?_) (fun c21 => ?_)
  .have hv := hv.1 (oT c21)
   refine Jr <| JA <| W.block <| Jd 2 <| JD 0 JW J0 hS rfl ⟨rfl, rfl⟩ rfl <| Jc 2 <| SL.call hS (Zb (hS.ro hf) hv) Ji5 rfl Jlc rfl rfl ?_
   rintro _ _ w22 ⟨r23, rfl, rfl, hv⟩ hGw22 hS
   have hS := hS.n0
   refine Jc 2 <| Jj rfl (fun c24 => ?_) (fun c24 => ?_)
   .have hv := hv.1 (oT c24)
    refine Jd 5 <| W.ret <| ⟨_, rfl, Fin.nil ?_⟩
    exact (hS.pick [] rfl).fin rfl ⟨z15, rfl, rfl, hv⟩
   have hv := hv.2 (oF c24)
   refine Jr <| Jd 2 ?_
   obtain ⟨o25, hv⟩ := hv
   refine WL.add (r := (z15 + 1)) rfl rfl (wr o25) rfl <| Jc 2 ?_
   exact ⟨(z15 + 1), sp rfl, hv.2, rfl, hv.1, hS⟩
  have hv := hv.2 (oF c21)
  refine JB <| Jd 4 <| W.ret <| ⟨_, rfl, Fin.nil ?_⟩
  exact (hS.pick [] rfl).fin rfl ⟨(0 : Int), rfl, rfl, hv⟩
end Go.Proofs.Ytppkigdakobebaa
set_option linter.unusedVariables false
set_option linter.unusedSimpArgs false
namespace Go.Proofs.Ytppkigdakobebaa
section
variable {P M : Int} {mf : List Int} {p m v : Nat}
theorem v_rSub (F : FV P M mf p m v) {x y : Int} {Q : Int -> Prop} (h : Q ((Qp p m (inE (p ^ m) x) (Jcx p m (inE (p ^ m) y)) : Nat) : Int)) : Jel P M mf x y Q := by
  refine ⟨_, Jo5 F rfl, _, Jjp F rfl, ?_⟩
  rw [Yh (Jc8 (by have := F.p2; omega) _)]; exact h
end
section
variable {P M : Int} {mf : List Int} {p m v : Nat}
end
end Go.Proofs.Ytppkigdakobebaa
set_option linter.unusedVariables false
set_option linter.unusedSimpArgs false
namespace Go.Proofs.Ytppkigdakobebaa
open Ks
/-! ### the field's operations -/
section
variable {k : Ks} {F : GFv} {P M : Int} {mf : List Int}
theorem w_rInv {x : Int} {Q : Int -> Prop} (hF : FV P M mf k.p k.m k.v) (hx : k.el x ≠ 0) (h : Q (k.co (Qo (k.el x)))) : Jha P M mf x Q := by
  have hq := k.q256
  have hlt := (Qo (k.el x)).2
  have hpos : 0 < (Qo (k.el x)).1 := Nat.pos_of_ne_zero fun e => Jqa hx (Subtype.ext e)
  refine ⟨fun z => ∃ j : Nat, z = j /\ 1 <= j /\ j <= (Qo (k.el x)).1, fun z => (300 - z).toNat, ⟨1, rfl, Nat.le_refl _, hpos⟩, ?_⟩
  rintro _ ⟨j, rfl, h1, h2⟩
  dsimp only
  refine Yp ?_
  rw [hF.ord]
  refine ⟨fun hlt2 => Jbg hF ⟨fun h3 => ?_, fun h3 => ⟨Jw (by omega) (by omega), ⟨j + 1, by push_cast; rfl, by omega, ?_⟩, by omega⟩⟩, fun hge => by omega⟩
  . have e : k.el (j : Int) * k.el x = 1 := by rw [Cr.mul_comm]; exact Jqr h3
    rw [<- Yv e] at h
    rwa [Zw ⟨by omega, hlt2⟩] at h
  . rcases Nat.lt_or_ge j (Qo (k.el x)).1 with h4 | h4
    . exact h4
    . exfalso
      have e : k.el (j : Int) = Qo (k.el x) := by
        have : (j : Int) = k.co (Qo (k.el x)) := by show (j : Int) = (((Qo (k.el x)).1 : Nat) : Int); omega
        rw [this, Qx]
      rw [e, ZN hx] at h3
      exact h3 rfl
end
end Go.Proofs.Ytppkigdakobebaa
set_option linter.unusedSimpArgs false
set_option linter.unusedVariables false
set_option maxRecDepth 4000
set_option maxHeartbeats 4000000
namespace Go.Proofs.Ytppkigdakobebaa
open Go.RowKit
def ZA (Pd : Int) (Md : Int) (md : List Int) (Kd : Int) (da : List Int) (db : List Int) (Q : Int × List Int -> Prop) : Prop :=
  (0 <= (da.length : Int) /\ (da.length : Int) * 8 <= 281474976710656 /\ (da.length : Int) <= 281474976710656) /\ (∃ (I25 : List Int -> Int -> Prop) (μ26 : List Int -> Int -> Nat), I25 (List.replicate (da.length : Int).toNat (0 : Int)) (0 : Int) /\ ∀ (x23 : List Int) (z24 : Int), (I25 x23 z24 -> (((z24 < (da.length : Int)) -> ((0 <= z24 /\ z24 < (db.length : Nat)) /\ (∃ (I36 : Int -> Int -> Prop) (μ37 : Int -> Int -> Nat), I36 (gi db z24) (0 : Int) /\ ∀ (z34 : Int) (z35 : Int), (I36 z34 z35 -> (((z35 < (da.length : Int)) -> (∃ J41 : Int -> Prop, (((z35 ≠ z24) -> ((0 <= z24 /\ z24 < (da.length : Nat)) /\ ((0 <= z35 /\ z35 < (da.length : Nat)) /\ (∃ (r61 : Int), Jel Pd Md md (gi da z24) (gi da z35) (fun q => q = r61) /\ (∃ (r65 : Int), YC Pd Md md z34 r61 (fun q => q = r65) /\ J41 r65))))) /\ (¬ (z35 ≠ z24) -> J41 z34)) /\ ∀ (z40 : Int), (J41 z40 -> ((I64 (z35 + 1)) /\ (I36 z40 (z35 + 1) /\ μ37 z40 (z35 + 1) < μ37 z34 z35))))) /\ (¬ (z35 < (da.length : Int)) -> (Jha Pd Md md z34 (fun r74 => (0 <= z24 /\ z24 < ((da.length : Int).toNat : Nat)) /\ ((I64 (z24 + 1)) /\ (I25 (si x23 z24 r74) (z24 + 1) /\ μ26 (si x23 z24 r74) (z24 + 1) < μ26 x23 z24)))))))))) /\ (¬ (z24 < (da.length : Int)) -> ((I64 ((da.length : Int) - Kd)) /\ (Q (((da.length : Int) - Kd), x23)))))))
theorem Jnc {w : World} {Q : Int × List Int -> Prop} {Pd : Int} {Md : Int} {md : List Int} {Kd : Int} {da : List Int} {db : List Int} {Bd : Nat} {Ad : Option Addr} {nd kd : Nat} (hd : Rd Bd w 1 Ad nd kd (is md)) {Bda : Nat} {Ada : Option Addr} {nda kda : Nat} (hda : Rd Bda w 1 Ada nda kda (is da)) {Bdb : Nat} {Adb : Option Addr} {ndb kdb : Nat} (hdb : Rd Bdb w 1 Adb ndb kdb (is db)) (hv : ZA Pd Md md Kd da db Q) :
    Calls Try.prog 42 #[.agg #[.int .i64 Pd, .int .i64 Md, .slice Ad nd kd, .int .i64 Kd, .slice Ada nda kda, .slice Adb ndb kdb]] w <| Rt w fun v Qr => ∃ (r : Int) (x : List Int) (A : Option Addr) (c : Nat), v = .agg #[.int .i64 Pd, .int .i64 Md, .slice Ad md.length kd, .int .i64 r, .slice Ada da.length kda, .slice A x.length c] /\ Qr = [.row 3 1 A x.length c (is x)] /\ Q (r, x) := by
  have hnd := hd.ilen
  subst hnd
  have hnda := hda.ilen
  subst hnda
  have hndb := hdb.ilen
  subst hndb
  refine Jn <| QN (vs := [.agg #[nI Pd, nI Md, nS Ad md kd, nI Kd, nS Ada da kda, nS Adb db kdb]]) [.cell 2 48] XF42 rfl rfl rfl rfl ?_
  have hS := Jt w
  unfold ZA at hv
  refine Jd 2 <| JH (z := 6) (cs := [nI Pd, nI Md, nS Ad md kd, nI Kd, nS Ada da kda, nS Adb db kdb]) hS rfl rfl rfl rfl ?_
  intro g11 w12 hS
  refine SL.alloc (cs := [nI 0, nI 0, .slice none 0 0, nI 0, .slice none 0 0, .slice none 0 0]) hS JQ rfl rfl ?_
  intro g13 w14 hS
  refine Ja <| Jd 2 <| Jb (off := 4) Ju rfl rfl <| Jp 1 4 Jh hS rfl rfl rfl ⟨rfl, rfl⟩ <| WL.len Jh rfl rfl <| Jc 2 <| Jd 3 ?_
  obtain ⟨o15, hv⟩ := hv
  refine QI (J := (da.length : Int)) hS Jh XE3 rfl rfl o15 (QG _) rfl ?_
  intro A16 w17 hS
  refine Jc 2 <| Jd 5 <| W.block ?_
  obtain ⟨I25, μ26, hv, hk81⟩ := hv
  refine JE (σ := List Int × Int) (fun q w1 => match q with | (x23, z24) => I25 x23 z24 /\ St TT w none w1 [.row 3 1 A16 ((da.length : Int).toNat) ((da.length : Int).toNat) (is x23), .row 48 6 (nA g13) 1 1 [nI 0, nI 0, .slice none 0 0, nI 0, .slice none 0 0, .slice none 0 0], .row 48 6 (nA g11) 1 1 [nI Pd, nI Md, nS Ad md kd, nI Kd, nS Ada da kda, nS Adb db kdb]]) (fun (x23, z24) => [(1, nP g11), (2, nP g13), (3, nI (da.length : Int)), (4, .slice A16 ((da.length : Int).toNat) ((da.length : Int).toNat)), (5, nI z24)]) (fun (x23, z24) => μ26 x23 z24) (List.replicate (da.length : Int).toNat (0 : Int), (0 : Int)) ⟨hv, hS⟩ ⟨rfl, rfl, rfl, rfl, rfl, trivial⟩ ?_
  rintro ⟨x23, z24⟩ w27 ⟨hv, hS⟩
  have hv := hk81 x23 z24 hv
  refine Jd 7 <| Jj rfl (fun c28 => ?_) (fun c28 => ?_)
  .have hv := hv.1 (oT c28)
   refine Jr <| JA <| W.block <| Jd 2 <| Jb (off := 5) Jv rfl rfl <| Jp 2 5 Jh hS rfl rfl rfl ⟨rfl, rfl⟩ <| Jq rfl rfl ?_
   obtain ⟨o29, hv⟩ := hv
   refine Jo Jh XE3 (hS.ro hdb) rfl rfl o29 rfl <| Js XU3 rfl rfl (JJ (hS.ro hdb) o29) rfl <| Jc 2 <| Jd 5 <| W.block ?_
   obtain ⟨I36, μ37, hv, hk78⟩ := hv
   refine JE (σ := Int × Int) (fun q w1 => match q with | (z34, z35) => I36 z34 z35 /\ St TT w none w1 [.row 3 1 A16 ((da.length : Int).toNat) ((da.length : Int).toNat) (is x23), .row 48 6 (nA g13) 1 1 [nI 0, nI 0, .slice none 0 0, nI 0, .slice none 0 0, .slice none 0 0], .row 48 6 (nA g11) 1 1 [nI Pd, nI Md, nS Ad md kd, nI Kd, nS Ada da kda, nS Adb db kdb]]) (fun (z34, z35) => [(1, nP g11), (2, nP g13), (3, nI (da.length : Int)), (4, .slice A16 ((da.length : Int).toNat) ((da.length : Int).toNat)), (5, nI z24), (6, nI z34), (7, nI z35), (15, .bool (decide (z24 < (da.length : Int))))]) (fun (z34, z35) => μ37 z34 z35) ((gi db z24), (0 : Int)) ⟨hv, hS⟩ ⟨rfl, rfl, rfl, rfl, rfl, rfl, rfl, rfl, trivial⟩ ?_
   rintro ⟨z34, z35⟩ w38 ⟨hv, hS⟩
   have hv := hk78 z34 z35 hv
   refine Jd 7 <| Jj rfl (fun c39 => ?_) (fun c39 => ?_)
   .have hv := hv.1 (oT c39)
    refine Jr <| JA ?_
    obtain ⟨J41, hv, hk72⟩ := hv
    refine QT (σ := Int) (fun z40 w1 => J41 z40 /\ St TT w none w1 [.row 3 1 A16 ((da.length : Int).toNat) ((da.length : Int).toNat) (is x23), .row 48 6 (nA g13) 1 1 [nI 0, nI 0, .slice none 0 0, nI 0, .slice none 0 0, .slice none 0 0], .row 48 6 (nA g11) 1 1 [nI Pd, nI Md, nS Ad md kd, nI Kd, nS Ada da kda, nS Adb db kdb]]) (fun z40 => [(1, nP g11), (2, nP g13), (3, nI (da.length : Int)), (4, .slice A16 ((da.length : Int).toNat) ((da.length : Int).toNat)), (5, nI z24), (6, nI z40), (7, nI z35), (15, .bool (decide (z24 < (da.length : Int)))), (25, .bool (decide (z35 < (da.length : Int)))), (30, .bool (decide (z35 ≠ z24)))]) ?_ ?_
    .refine W.block ?_
     refine Jd 6 <| Jj rfl (fun c42 => ?_) (fun c42 => ?_)
     .have hv := hv.1 (oT c42)
      obtain ⟨o52, hv⟩ := hv
      obtain ⟨o58, hv⟩ := hv
      obtain ⟨r61, o63, hv⟩ := hv
      obtain ⟨r65, o67, hv⟩ := hv
      refine JK 18 [⟨[], [1], true⟩, ⟨[0], [], false⟩, ⟨[], [6], true⟩, ⟨[], [1], true⟩, ⟨[3], [], false⟩, ⟨[], [1], true⟩, ⟨[5], [], false⟩, ⟨[], [5], true⟩, ⟨[6, 7], [], true⟩, ⟨[8], [], false⟩, ⟨[], [1], true⟩, ⟨[10], [], false⟩, ⟨[], [7], true⟩, ⟨[11, 12], [], true⟩, ⟨[13], [], false⟩, ⟨[4, 9, 14], [], false⟩, ⟨[1, 2, 15], [], false⟩, ⟨[16], [], true⟩] [(31, nP g11), (32, .agg #[nI Pd, nI Md, nS Ad md kd]), (33, nI z34), (34, nP g11), (35, .agg #[nI Pd, nI Md, nS Ad md kd]), (36, .pointer (some ((⟨g11, 0, none⟩ : Addr).add 4))), (37, nS Ada da kda), (38, nI z24), (39, .pointer (some ((JU Ada).add z24.toNat))), (40, nI (gi da z24)), (41, .pointer (some ((⟨g11, 0, none⟩ : Addr).add 4))), (42, nS Ada da kda), (43, nI z35), (44, .pointer (some ((JU Ada).add z35.toNat))), (45, nI (gi da z35)), (46, nI r61), (47, nI r65), (6, nI r65)] Try.mixed (by kernel_rfl) rfl rfl ?_ ?_
      . refine ⟨fun _ _ _ => Jb (off := 0) Qf rfl rfl <| Ja ⟨rfl, rfl⟩, og hS fun _ _ hS => J4 (cs := [nI Pd, nI Md, nS Ad md kd]) JW J0 rfl rfl (QE (hS.rd (i := 2) rfl) 0 rfl) rfl <| Ja ⟨rfl, Jg _⟩, oD, fun _ _ _ => Jb (off := 0) Qf rfl rfl <| Ja ⟨rfl, rfl⟩, og hS fun _ _ hS => J4 (cs := [nI Pd, nI Md, nS Ad md kd]) JW J0 rfl rfl (QE (hS.rd (i := 2) rfl) 0 rfl) rfl <| Ja ⟨rfl, Jg _⟩, fun _ _ _ => Jb (off := 4) Ju rfl rfl <| Ja ⟨rfl, rfl⟩, og hS fun _ _ hS => Jp 2 4 Jh hS rfl rfl rfl ⟨rfl, rfl⟩ <| Ja ⟨rfl, Jg _⟩, oD, fun _ _ _ => Jo Jh XE3 (hS.ro hda) rfl rfl o52 rfl <| Ja ⟨rfl, rfl⟩, og hS fun _ _ hS => Js XU3 rfl rfl (JJ (hS.ro hda) o52) rfl <| Ja ⟨rfl, Jg _⟩, fun _ _ _ => Jb (off := 4) Ju rfl rfl <| Ja ⟨rfl, rfl⟩, og hS fun _ _ hS => Jp 2 4 Jh hS rfl rfl rfl ⟨rfl, rfl⟩ <| Ja ⟨rfl, Jg _⟩, oD, fun _ _ _ => Jo Jh XE3 (hS.ro hda) rfl rfl o58 rfl <| Ja ⟨rfl, rfl⟩, og hS fun _ _ hS => Js XU3 rfl rfl (JJ (hS.ro hda) o58) rfl <| Ja ⟨rfl, Jg _⟩, ?_, ?_, oD, trivial⟩
        . intro w60 hE RR
          have hS := hS.grow (hE rfl)
          refine WL.call XF87 rfl XN87 rfl rfl (JF (Jsm (hS.ro hd) o63)) ?_
          rintro _ w62 ⟨_, hGw62, hRww62, hNww62, r61q, rfl, rfl, he⟩
          subst he
          exact Ja ⟨rfl, hGw62⟩
        intro w64 hE RR
        have hS := hS.grow (hE rfl)
        refine WL.call Ji5 rfl Jlc rfl rfl (JF (Zb (hS.ro hd) o67)) ?_
        rintro _ w66 ⟨_, hGw66, hRww66, hNww66, r65q, rfl, rfl, he⟩
        subst he
        exact Ja ⟨rfl, hGw66⟩
      intro w69 hT
      have hS := hS.grow hT
      refine JC ?_
      exact ⟨r65, sp rfl, rfl, hv, hS⟩
     have hv := hv.2 (oF c42)
     refine Jr ?_
     exact ⟨z34, sp rfl, rfl, hv, hS⟩
    rintro z40 w70 ⟨hv, hS⟩
    have hv := hk72 z40 hv
    refine Jd 2 ?_
    obtain ⟨o71, hv⟩ := hv
    refine WL.add (r := (z35 + 1)) rfl rfl (wr o71) rfl <| Jc 2 ?_
    exact ⟨(z40, (z35 + 1)), sp rfl, hv.2, rfl, hv.1, hS⟩
   have hv := hv.2 (oF c39)
   refine JB <| Jd 3 <| Jb (off := 0) Qf rfl rfl <| J4 (cs := [nI Pd, nI Md, nS Ad md kd]) JW J0 rfl rfl (QE (hS.rd (i := 2) rfl) 0 rfl) rfl <| Jq rfl rfl <| SL.call hS (Jsn (hS.ro hd) hv) XF88 rfl XN88 rfl rfl ?_
   rintro _ _ w73 ⟨r74, rfl, rfl, hv⟩ hGw73 hS
   have hS := hS.n0
   obtain ⟨o75, hv⟩ := hv
   refine Jo Jh XE3 (hS.rd (i := 0) rfl) rfl rfl o75 rfl <| Jf (cs' := is (si x23 z24 r74)) 0 z24.toNat hS rfl XE3 rfl rfl rfl (Qu (hS.rd (i := 0) rfl) o75) (Qb _ _ _) ?_
   intro w76 hS
   refine Ja <| Jd 2 ?_
   obtain ⟨o77, hv⟩ := hv
   refine WL.add (r := (z24 + 1)) rfl rfl (wr o77) rfl <| Jc 2 ?_
   exact ⟨(si x23 z24 r74, (z24 + 1)), sp rfl, hv.2, rfl, hv.1, hS⟩
  have hv := hv.2 (oF c28)
  refine JB <| Jd 2 <| Jb (off := 0) Qf rfl rfl <| J4 (cs := [nI Pd, nI Md, nS Ad md kd]) JW J0 rfl rfl (QE (hS.rd (i := 2) rfl) 0 rfl) rfl <| Jq rfl rfl <| Jb (off := 3) Qm rfl rfl <| Jp 2 3 XU3 hS rfl rfl rfl ⟨rfl, rfl⟩ ?_
  obtain ⟨o79, hv⟩ := hv
  refine WL.sub (r := ((da.length : Int) - Kd)) rfl rfl (wr o79) rfl <| Jb (off := 4) Ju rfl rfl <| Jp 2 4 Jh hS rfl rfl rfl ⟨rfl, rfl⟩ <| Jq rfl rfl <| J9 (cells := #[nI Pd, nI Md, nS Ad md kd, nI ((da.length : Int) - Kd), nS Ada da kda, .slice A16 ((da.length : Int).toNat) ((da.length : Int).toNat)]) Jcy rfl rfl rfl <| JS (cs := [nI Pd, nI Md, nS Ad md kd, nI ((da.length : Int) - Kd), nS Ada da kda, .slice A16 ((da.length : Int).toNat) ((da.length : Int).toNat)]) 1 hS rfl JQ rfl rfl rfl rfl rfl ?_
  intro w80 hS
  refine Ja <| W.ret ?_
  have hm := (hS.rd (i := 0) rfl).ilen
  have hS := hS.relen (i := 0) rfl hm.symm
  repeat with_reducible first | refine blk.ret ?_ | refine exits.retI ?_
  refine endC.mk ⟨[.agg #[nI Pd, nI Md, nS Ad md kd, nI ((da.length : Int) - Kd), nS Ada da kda, .slice A16 ((da.length : Int).toNat) ((da.length : Int).toNat)]], ⟨_, _, _, rfl, rfl, J6 (cs := [nI Pd, nI Md, nS Ad md kd, nI ((da.length : Int) - Kd), nS Ada da kda, .slice A16 ((da.length : Int).toNat) ((da.length : Int).toNat)]) JQ J7 rfl (JT (hS.own (i := 1) rfl)), rfl⟩, ?_⟩
  exact ⟨_, hS.ext, (hS.pick [0] rfl).rows, Yl (hS.pick [0] rfl).rows rfl, ⟨((da.length : Int) - Kd), x23, A16, ((da.length : Int).toNat), (by (try unfold nS); first | (rw [hm]; done) | (rw [hm]; rfl)), rfl, hv⟩⟩
end Go.Proofs.Ytppkigdakobebaa
set_option linter.unusedSectionVars false
namespace Go.Proofs.Ytppkigdakobebaa
/-! ### counting: how many of the numbers below n have a property -/
section
open Classical
end
section
variable {α : Type} [Cr α] [Fd α]
/-- the dual of the dual -/
theorem Jnt {x : Nat -> α} {i n : Nat} {u : α} (hu : u ≠ 0) (hx : ∀ j, j < n -> j ≠ i -> x i ≠ x j) : Qo (pdl x i (Qo (pdl x i u n)) n) = u := by
  have h1 : pdl x i u n ≠ 0 := Jdu hu hx
  refine (Yv ?_).symm
  rw [Jau x i (Qo _)]
  have h2 := ZN h1
  have e : pdl x i u n = u * pdl x i 1 n := Jau x i u n
  refine Eq.trans ?_ h2
  refine Eq.trans ?_ (congrArg (· * Qo (pdl x i u n)) e.symm)
  show _ = u * pdl x i 1 n * Qo (pdl x i u n)
  ac_rfl
end
end Go.Proofs.Ytppkigdakobebaa
set_option linter.unusedVariables false
set_option linter.unusedSimpArgs false
namespace Go.Proofs.Ytppkigdakobebaa
open Ks
section
variable {P M : Int} {mf : List Int} {k : Ks} {F : GFv} {K : Int} {da db : List Int}
theorem w_rSub {x y : Int} {Q : Int -> Prop} (hF : FV P M mf k.p k.m k.v) (h : Q (k.co (k.el x - k.el y))) : Jel P M mf x y Q := v_rSub hF h
theorem Jop {Q : Int × List Int -> Prop} (hF : FV P M mf k.p k.m k.v) (G : GsD k K da db) (h : Q ((da.length : Int) - K, DM k da db)) : ZA P M mf K da db Q := by
  have n64 := G.n64; have hlen := G.len
  have k0 := G.k0; have kn := G.kn
  let val : Nat -> Int := fun i => k.co (Qo (pdl (fun j => k.el (vo da j)) i (k.el (vo db i)) da.length))
  unfold ZA
  rw [Int.toNat_natCast]
  refine ⟨by omega, fun x z => Fill val da.length x z, fun _ z => ((da.length : Nat) - z : Int).toNat, YF _ _, ?_⟩
  rintro x z hf
  obtain ⟨i, rfl, hi, hx, hv⟩ := hf
  refine ⟨fun hlt => ⟨⟨by omega, by omega⟩, ?_⟩, fun hge => ⟨Jw (by omega) (by omega), ?_⟩⟩
  . have hi' : i < da.length := by omega
    refine ⟨fun u z => ∃ j : Nat, z = j /\ j <= da.length /\ k.el u = pdl (fun j => k.el (vo da j)) i (k.el (vo db i)) j, fun _ z => ((da.length : Nat) - z : Int).toNat, ⟨0, rfl, Nat.zero_le _, rfl⟩, ?_⟩
    rintro u _ ⟨j, rfl, hj, hu⟩
    refine ⟨fun hlt2 => ?_, fun hge2 => ?_⟩
    . refine ⟨fun u' => k.el u' = pdl (fun j => k.el (vo da j)) i (k.el (vo db i)) (j + 1), ⟨fun hne => ⟨⟨by omega, hlt⟩, ⟨by omega, hlt2⟩, _, w_rSub hF rfl, _, Jbg hF rfl, ?_⟩, fun he => ?_⟩, fun u' hu' => ⟨Jw (by omega) (by omega), ⟨j + 1, by push_cast; rfl, by omega, hu'⟩, by show ((da.length : Nat) - ((j : Int) + 1) : Int).toNat < ((da.length : Nat) - (j : Int) : Int).toNat; omega⟩⟩
      . show k.el _ = if j = i then _ else _
        rw [if_neg (by omega), Qx, Qx, hu]; rfl
      . show k.el _ = if j = i then _ else _
        rw [if_pos (by omega)]; exact hu
    . have : j = da.length := by omega
      subst this
      refine w_rInv hF (fun e => absurd (hu.symm.trans e) (G.pd_ne hi')) ⟨⟨by omega, by omega⟩, Jw (by omega) (by omega), ?_, by show ((da.length : Nat) - ((i : Int) + 1) : Int).toNat < ((da.length : Nat) - (i : Int) : Int).toNat; omega⟩
      exact Fill.step ⟨i, rfl, hi, hx, hv⟩ hi' (by rw [hu])
  . have : i = da.length := by omega
    subst this
    have := Jgh (f := val) ⟨_, rfl, hi, hx, hv⟩
    rw [this]; exact h
end
end Go.Proofs.Ytppkigdakobebaa
set_option linter.unusedSimpArgs false
set_option linter.unusedVariables false
set_option maxRecDepth 4000
set_option maxHeartbeats 4000000
namespace Go.Proofs.Ytppkigdakobebaa
open Go.RowKit
def Jer (Pd : Int) (Md : Int) (md : List Int) (Kd : Int) (da : List Int) (db : List Int) (Q : Bool -> Prop) : Prop :=
  QV  (fun r14 => (((!r14) = true) -> Q false) /\ ((!r14) = false -> ((((24 : Int) < (da.length : Int)) -> Q true) /\ (¬ ((24 : Int) < (da.length : Int)) -> (Zi Pd Md md Kd da db (fun (r18, r19, x20, c21, x22, x23, r24) => QO Pd Md md Kd da db (fun r38 => ((r38 ≠ 0) -> (((r24 = r38) -> (QF r18 r19 x20 c21 x22 x23 (fun r42 => Q r42))) /\ (¬ (r24 = r38) -> Q false))) /\ (¬ (r38 ≠ 0) -> (Zi r18 r19 x20 c21 x22 x23 (fun (r44, r45, x46, c47, x48, x49, r50) => (r24 = 0) /\ ((r50 = 0) /\ (∃ (r75 : Int) (x76 : List Int), ZA Pd Md md Kd da db (fun q => q = (r75, x76)) /\ ((Yy r18 r19 x20 c21 x22 x23 Pd Md md r75 da x76 (fun q => q = true)) /\ (∃ (r93 : Bool), Yy r44 r45 x46 c47 x48 x49 Pd Md md Kd da db (fun q => q = r93) /\ Q r93))))))))))))))
theorem Jnj {w : World} {Q : Bool -> Prop} {Pd : Int} {Md : Int} {md : List Int} {Kd : Int} {da : List Int} {db : List Int} {Bd : Nat} {Ad : Option Addr} {nd kd : Nat} (hd : Rd Bd w 1 Ad nd kd (is md)) {Bda : Nat} {Ada : Option Addr} {nda kda : Nat} (hda : Rd Bda w 1 Ada nda kda (is da)) {Bdb : Nat} {Adb : Option Addr} {ndb kdb : Nat} (hdb : Rd Bdb w 1 Adb ndb kdb (is db)) (hv : Jer Pd Md md Kd da db Q) :
    Calls Try.prog 11 #[.agg #[.int .i64 Pd, .int .i64 Md, .slice Ad nd kd, .int .i64 Kd, .slice Ada nda kda, .slice Adb ndb kdb]] w <| Rt w fun v Qr => ∃ (r0 : Bool), v = .bool r0 /\ Qr = [] /\ Q r0 := by
  have hnd := hd.ilen
  subst hnd
  have hnda := hda.ilen
  subst hnda
  have hndb := hdb.ilen
  subst hndb
  refine Jn <| Jl (vs := [.agg #[nI Pd, nI Md, nS Ad md kd, nI Kd, nS Ada da kda, nS Adb db kdb]]) [2] XF11 rfl rfl rfl rfl ?_
  have hS := Jt w
  unfold Jer at hv
  refine Jd 2 <| JH (z := 6) (cs := [nI Pd, nI Md, nS Ad md kd, nI Kd, nS Ada da kda, nS Adb db kdb]) hS rfl rfl rfl rfl ?_
  intro g11 w12 hS
  refine Jc 2 <| Jd 3 <| SL.call hS (Yu  hv) Ji6 rfl Jld rfl rfl ?_
  rintro _ _ w13 ⟨r14, rfl, rfl, hv⟩ hGw13 hS
  have hS := hS.n0
  refine Jc 2 <| Jj rfl (fun c15 => ?_) (fun c15 => ?_)
  .have hv := hv.1 (c15)
   refine Jd 4 <| W.ret <| ⟨_, rfl, Fin.nil ?_⟩
   exact (hS.pick [] rfl).fin rfl ⟨false, rfl, rfl, hv⟩
  have hv := hv.2 (c15)
  refine Jr <| Jd 3 <| Jb (off := 4) Ju rfl rfl <| Jp 0 4 Jh hS rfl rfl rfl ⟨rfl, rfl⟩ <| WL.len Jh rfl rfl <| Jc 2 <| Jj rfl (fun c16 => ?_) (fun c16 => ?_)
  .have hv := hv.1 (oT c16)
   refine Jd 4 <| W.ret <| ⟨_, rfl, Fin.nil ?_⟩
   exact (hS.pick [] rfl).fin rfl ⟨true, rfl, rfl, hv⟩
  have hv := hv.2 (oF c16)
  refine Jr <| Jd 2 <| JD 0 JQ J7 hS rfl ⟨rfl, rfl⟩ rfl <| SL.call hS (Jav (hS.ro hd) (hS.ro hda) (hS.ro hdb) hv) XF41 rfl XN41 rfl rfl ?_
  rintro _ _ w17 ⟨r18, r19, x20, c21, x22, x23, r24, A25, k26, A28, k29, A31, k32, rfl, rfl, hv⟩ hGw17 hS
  have hS := hS.n3
  refine Jc 3 <| SL.alloc (cs := [nI 0, nI 0, .slice none 0 0, nI 0, .slice none 0 0, .slice none 0 0]) hS JQ rfl rfl ?_
  intro g34 w35 hS
  refine JS (cs := [nI r18, nI r19, nS A25 x20 k26, nI c21, nS A28 x22 k29, nS A31 x23 k32]) 0 hS rfl JQ rfl rfl rfl rfl rfl ?_
  intro w36 hS
  refine Jc 2 <| Jd 3 <| JD 4 JQ J7 hS rfl ⟨rfl, rfl⟩ rfl <| SL.call hS (Yr (hS.ro hd) (hS.ro hda) (hS.ro hdb) hv) Joe rfl XN31 rfl rfl ?_
  rintro _ _ w37 ⟨r38, rfl, rfl, hv⟩ hGw37 hS
  have hS := hS.n0
  refine Jc 2 <| Jd 5 <| Jj rfl (fun c39 => ?_) (fun c39 => ?_)
  .have hv := hv.1 (oT c39)
   refine Jd 5 <| Jq rfl rfl ?_
   by_cases g40 : r24 = r38
   .have hv := hv.1 g40
    rw [decide_eq_true g40]
    refine WL.take rfl <| JD 0 JQ J7 hS rfl ⟨rfl, rfl⟩ rfl <| WL.take rfl <| SL.call hS (Yn (hS.rd (i := 1) rfl) (hS.rd (i := 2) rfl) (hS.rd (i := 3) rfl) hv) Jlf rfl Job rfl rfl ?_
    rintro _ _ w41 ⟨r42, rfl, rfl, hv⟩ hGw41 hS
    have hS := hS.n0
    refine Jc 3 <| W.ret <| ⟨_, rfl, Fin.nil ?_⟩
    exact (hS.pick [] rfl).fin rfl ⟨r42, rfl, rfl, hv⟩
   have hv := hv.2 g40
   rw [decide_eq_false g40]
   refine Jc 5 <| W.ret <| ⟨_, rfl, Fin.nil ?_⟩
   exact (hS.pick [] rfl).fin rfl ⟨false, rfl, rfl, hv⟩
  have hv := hv.2 (oF c39)
  refine Jr <| Jd 2 <| JD 0 JQ J7 hS rfl ⟨rfl, rfl⟩ rfl <| SL.call hS (Jav (hS.rd (i := 1) rfl) (hS.rd (i := 2) rfl) (hS.rd (i := 3) rfl) hv) XF41 rfl XN41 rfl rfl ?_
  rintro _ _ w43 ⟨r44, r45, x46, c47, x48, x49, r50, A51, k52, A54, k55, A57, k58, rfl, rfl, hv⟩ hGw43 hS
  have hS := hS.n3
  refine Jc 3 <| SL.alloc (cs := [nI 0, nI 0, .slice none 0 0, nI 0, .slice none 0 0, .slice none 0 0]) hS JQ rfl rfl ?_
  intro g60 w61 hS
  refine JS (cs := [nI r44, nI r45, nS A51 x46 k52, nI c47, nS A54 x48 k55, nS A57 x49 k58]) 0 hS rfl JQ rfl rfl rfl rfl rfl ?_
  intro w62 hS
  refine Jc 2 <| JA ?_
  obtain ⟨o65, hv⟩ := hv
  obtain ⟨o69, hv⟩ := hv
  obtain ⟨r75, x76, o83, hv⟩ := hv
  obtain ⟨o87, hv⟩ := hv
  obtain ⟨r93, o95, hv⟩ := hv
  have hS0 := hS
  refine Ye 18 (fun _ => false) (fun _ => none) (fun _ v u => u = v) [⟨[], [4], true⟩, ⟨[0], [], true⟩, ⟨[1], [], true⟩, ⟨[2], [7], true⟩, ⟨[2, 3], [], true⟩, ⟨[2, 4], [], true⟩, ⟨[5], [], true⟩, ⟨[6], [3], false⟩, ⟨[6], [1], false⟩, ⟨[6, 8], [], false⟩, ⟨[6, 7, 9], [], false⟩, ⟨[6, 10], [], true⟩, ⟨[11], [], true⟩, ⟨[12], [6], false⟩, ⟨[12], [1], false⟩, ⟨[12, 13, 14], [], false⟩, ⟨[12, 15], [], true⟩, ⟨[16], [], true⟩] [.k 35 (nI r24), .k 36 (.bool true), .k 37 (.bool true), .k 38 (nI r50), .k 39 (.bool true), .k 40 (.bool true), .k 41 (.bool true), .k 42 (.agg #[nI r18, nI r19, nS A25 x20 k26, nI c21, nS A28 x22 k29, nS A31 x23 k32]), .k 43 (.agg #[nI Pd, nI Md, nS Ad md kd, nI Kd, nS Ada da kda, nS Adb db kdb]), eO w62 44 3 x76.length (fun A77_9 k78_9 => .agg #[nI Pd, nI Md, nS Ad md kd, nI r75, nS Ada da kda, nS A77_9 x76 k78_9]) (is x76), .k 45 (.bool true), .k 46 (.bool true), .k 47 (.bool true), .k 48 (.agg #[nI r44, nI r45, nS A51 x46 k52, nI c47, nS A54 x48 k55, nS A57 x49 k58]), .k 49 (.agg #[nI Pd, nI Md, nS Ad md kd, nI Kd, nS Ada da kda, nS Adb db kdb]), .k 50 (.bool r93), .k 51 (.bool r93), .k 2 (.bool r93)] (fun _ => vbD) Try.mixed (by kernel_rfl) rfl rfl (fun _ _ _ _ _ _ _ h => h) ?_ ?_
  . refine ⟨oC, ?_, oC, oC, ?_, oC, oC, og hS fun _ _ hS => WL.take rfl <| JD 4 JQ J7 hS rfl ⟨rfl, rfl⟩ rfl <| Ja ⟨rfl, Jg _⟩, og hS fun _ _ hS => WL.take rfl <| JD 8 JQ J7 hS rfl ⟨rfl, rfl⟩ rfl <| Ja ⟨rfl, Jg _⟩, ?_, ?_, oC, oC, og hS fun _ _ hS => WL.take rfl <| JD 0 JQ J7 hS rfl ⟨rfl, rfl⟩ rfl <| Ja ⟨rfl, Jg _⟩, og hS fun _ _ hS => WL.take rfl <| JD 8 JQ J7 hS rfl ⟨rfl, rfl⟩ rfl <| Ja ⟨rfl, Jg _⟩, ?_, oC, oC, trivial⟩
    . intro w64 hE
      intro RR
      refine Qn rfl rfl rfl ?_; rw [decide_eq_true o65]
      exact Ja ⟨rfl, rfl⟩
    . intro w68 hE
      intro RR
      refine WL.take rfl <| Qn rfl rfl rfl ?_; rw [decide_eq_true o69]
      exact Ja ⟨rfl, rfl⟩
    . intro w74 hE
      have hE := hE rfl
      have hS := hS.grow hE
      intro RR
      refine WL.take rfl <| WL.call XF42 rfl XN42 rfl rfl (JF (Jnc (hS.ro hd) (hS.ro hda) (hS.ro hdb) o83)) ?_
      rintro _ w80 ⟨_, hGw80, hRww80, hNww80, r75q, x76q, A77, k78, rfl, rfl, he⟩
      cases he
      have hO81 := (hRww80.get (i := 0) rfl).1
      have hN82 : ∀ g, bl A77 = some g -> _ <= g := fun g hg => Nat.le_trans hE.size (hNww80.1 g hg)
      exact Ja ⟨_, rfl, dnq hGw80 ⟨A77, k78, rfl, hO81, hN82⟩ rfl rfl⟩
    . intro w84 hE
      have hS := hS.grow (hE rfl)
      rintro _ ⟨A77_9, k78_9, rfl, hO81_9, hN82_9⟩
      intro RR
      refine WL.take rfl <| WL.call XF36 rfl XN36 rfl rfl (JF (ZJ (hS.rd (i := 5) rfl) (hS.rd (i := 6) rfl) (hS.rd (i := 7) rfl) (hS.ro hd) (hS.ro hda) hO81_9.rd o87)) ?_
      rintro _ w86 ⟨_, hGw86, hRww86, hNww86, r85, rfl, rfl, he⟩
      subst he
      exact Ja ⟨rfl, hGw86⟩
    intro w92 hE
    have hS := hS.grow (hE rfl)
    intro RR
    refine WL.take rfl <| WL.call XF36 rfl XN36 rfl rfl (JF (ZJ (hS.rd (i := 1) rfl) (hS.rd (i := 2) rfl) (hS.rd (i := 3) rfl) (hS.ro hd) (hS.ro hda) (hS.ro hdb) o95)) ?_
    rintro _ w94 ⟨_, hGw94, hRww94, hNww94, r93q, rfl, rfl, he⟩
    subst he
    exact Ja ⟨rfl, hGw94⟩
  intro vals w98 hT hVs hAp hCp
  have hS := hS.grow hT
  obtain ⟨A77_9, k78_9, hv9, hO81_9, hN82_9⟩ := hVs 9 (by decide)
  refine Yg [(9, .agg #[nI Pd, nI Md, nS Ad md kd, nI r75, nS Ada da kda, nS A77_9 x76 k78_9])] ⟨hv9, trivial⟩ <| JC <| W.ret <| ⟨_, rfl, Fin.nil ?_⟩
  exact (hS.pick [] rfl).fin rfl ⟨r93, rfl, rfl, hv⟩
end Go.Proofs.Ytppkigdakobebaa
set_option linter.unusedVariables false
set_option linter.unusedSimpArgs false
namespace Go.Proofs.Ytppkigdakobebaa
open Ks
/-! ### generalized Reed-Solomon codes: the laws -/
section
variable {P M : Int} {mf : List Int} {k k' : Ks} {F : GFv} {K : Int} {da db : List Int}
theorem DM_DM (G : GsD k K da db) : DM k da (DM k da db) = db := by
  have hl := G.len
  refine QY (by rw [Jal]; omega) fun i hi => ?_
  rw [Jal] at hi
  rw [Jjf hi, Jjf hi, Qx, Jnt (G.mu_ne hi) fun j hj hji => G.el_ne hi hj hji, Zw (G.eb _ (Ql.2 ⟨i, by omega, rfl⟩))]
theorem Jgm (P M : Int) (mf : List Int) (K : Int) (da db : List Int) : Jer P M mf K da db (fun b => b = true) := by
  have one : ∀ {A B : Prop} {a : Int}, A -> ((a = a -> A) /\ (¬ (a = a) -> B)) := fun h => ⟨fun _ => h, fun c => absurd rfl c⟩
  refine YG (zT ⟨fun _ => rfl, fun c1 => Jcz (fun hn => ?_) fun k hF G => ?_⟩)
  . exact Qz ⟨fun _ => one (Je3 rfl), fun c => absurd hn c⟩
  . have hm := Jkc hF
    have hl := G.len
    refine Qz ⟨fun c => absurd (G.ck hF) c, fun _ => Jcz (fun c => absurd (G.dual.ck hF) c) fun k' hF' G' => ?_⟩
    refine ⟨rfl, rfl, _, _, Jop hF G rfl, Jan (by omega) (by omega) (by rw [Jal]; omega) (decide_eq_true ⟨rfl, rfl, rfl, rfl, rfl, rfl⟩), true, Jan (by omega) (by omega) (by rw [Jal]; omega) (decide_eq_true ⟨rfl, rfl, rfl, by omega, rfl, ?_⟩), rfl⟩
    rw [DM_k hF' hF, DM_DM G]
end
end Go.Proofs.Ytppkigdakobebaa
