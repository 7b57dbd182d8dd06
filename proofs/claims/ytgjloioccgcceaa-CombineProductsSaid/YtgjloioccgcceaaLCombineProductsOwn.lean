/- What only this law leans on. -/
import Derived.Test.YtgjloioccgcceaaCombineProductsG8
set_option linter.unusedSimpArgs false
set_option linter.unusedVariables false
namespace Go.Proofs.Ytgjloioccgcceaa
open Go.RowKit
section
variable {X : World -> Prop} {w0 w w' : World} {mr : Option Nat} {R : List Rw}
end
section
variable {P : Program} {n : Nat} {ro : Option Nat} {df : List Deferred} {N : J5} {L : Fr} {w w0 : World} {ops : Array Oper} {rest : List Oper}
variable {d : Nat} {ty : TypeId} {pos : String} {af : Array Edge} {X : World -> Prop} {mr : Option Nat} {R : List Rw}
/-- A literal of a slice of one-cell elements, in a region that draws its order. -/
theorem Jvo {t e : TypeId} {by_ : Nat} {zero : Value} {k : Nat} {parts : List (Nat × Operand)} {vs : List Value} (ht : P.underlying t = some (.slice e)) (he : Elem P e 1 by_ zero)
    (hx : evs L (parts.map (·.2)) = some vs) (hk : Nat.ble k 1000 = true) (hp : parts.map (·.1) = List.range' 0 k) (hl : vs.length = k) (h1 : ∀ v ∈ vs, v.oneCell' = true) (hn : Nat.blt d n = true)
    (h : ∀ A c w', Own 0 w' e 1 A k c vs -> (∀ g, bl A = some g -> w.heap.size <= g) -> w.grownBy w' none -> WL P n ro df ops rest N ((d, .slice A k c) :: L) w') :
    WL P n ro df ops (⟨some d, .buildSlice t k parts.toArray, ty, pos, af, none⟩ :: rest) N L w :=
  Jij (b := w.heap.size) ht he hk hx hp hl h1 (Nat.le_refl _) hn fun A w' hA hO hG => h A k w' (hO.low (Nat.zero_le _)) (fun g hg => (hO.bl_ge g hg).1) hG
end
end Go.Proofs.Ytgjloioccgcceaa
set_option linter.unusedVariables false
namespace Go.Proofs.Ytgjloioccgcceaa
open Go.RowKit
theorem Try.nm12 : (Try.f12.name == "runtime.NumGoroutine") = false := by kernel_rfl
theorem Try.nm13 : (Try.f13.name == "runtime.NumGoroutine") = false := by kernel_rfl
theorem Try.nm16 : (Try.f16.name == "runtime.NumGoroutine") = false := by kernel_rfl
theorem Try.nm26 : (Try.f26.name == "runtime.NumGoroutine") = false := by kernel_rfl
theorem Try.nm31 : (Try.f31.name == "runtime.NumGoroutine") = false := by kernel_rfl
theorem Try.nm32 : (Try.f32.name == "runtime.NumGoroutine") = false := by kernel_rfl
theorem Try.nm44 : (Try.f44.name == "runtime.NumGoroutine") = false := by kernel_rfl
end Go.Proofs.Ytgjloioccgcceaa
namespace Go.Proofs.Ytgjloioccgcceaa
open Go.RowKit
abbrev XF12 := Try.func12
abbrev XF13 := Try.func13
abbrev XF16 := Try.func16
abbrev XF26 := Try.func26
abbrev XF31 := Try.func31
abbrev XF32 := Try.func32
abbrev XF4 := Try.func4
abbrev XF44 := Try.func44
abbrev XN12 := Try.nm12
abbrev XN13 := Try.nm13
abbrev XN16 := Try.nm16
abbrev XN26 := Try.nm26
abbrev XN31 := Try.nm31
abbrev XN32 := Try.nm32
abbrev XN44 := Try.nm44
end Go.Proofs.Ytgjloioccgcceaa
set_option linter.unusedSimpArgs false
set_option linter.unusedVariables false
set_option maxRecDepth 4000
set_option maxHeartbeats 4000000
namespace Go.Proofs.Ytgjloioccgcceaa
open Go.RowKit
def Jb7 (Pa : Int) (Ma : Int) (ma : List Int) (Na : Int) (a : List (List Int)) (Pb : Int) (Mb : Int) (mb : List Int) (Nb : Int) (b : List (List Int)) (Q : Int -> Prop) : Prop :=
  YF Pa Ma ma Na a (fun r16 => ∃ J18 : Int -> Prop, (((r16 = 0) -> (YF Pb Mb mb Nb b (fun r21 => J18 r21))) /\ (¬ (r16 = 0) -> J18 r16)) /\ ∀ (z17 : Int), (J18 z17 -> (((z17 = 0) -> (Z8 Pa Ma ma Pb Mb mb (fun r25 => (((!r25) = true) -> (Q 10)) /\ ((!r25) = false -> Q z17)))) /\ (¬ (z17 = 0) -> Q z17))))
theorem Jq8 {w : World} {Q : Int -> Prop} {Pa : Int} {Ma : Int} {ma : List Int} {Na : Int} {a : List (List Int)} {Pb : Int} {Mb : Int} {mb : List Int} {Nb : Int} {b : List (List Int)} {Baf : Nat} {Aaf : Option Addr} {naf kaf : Nat} (haf : Rd Baf w 1 Aaf naf kaf (is ma)) {Aa : Option Addr} {na ka : Nat} (ha : Rl w Aa na ka a) {Bbf : Nat} {Abf : Option Addr} {nbf kbf : Nat} (hbf : Rd Bbf w 1 Abf nbf kbf (is mb)) {Ab : Option Addr} {nb kb : Nat} (hb : Rl w Ab nb kb b) (hv : Jb7 Pa Ma ma Na a Pb Mb mb Nb b Q) :
    Calls Try.prog 16 #[.agg #[.int .i64 Pa, .int .i64 Ma, .slice Aaf naf kaf, .int .i64 Na, .slice Aa na ka], .agg #[.int .i64 Pb, .int .i64 Mb, .slice Abf nbf kbf, .int .i64 Nb, .slice Ab nb kb]] w <| Rt w fun v Qr => ∃ (r0 : Int), v = .int .i64 r0 /\ Qr = [] /\ Q r0 := by
  have hnaf := haf.ilen
  subst hnaf
  have hna := ha.len
  subst hna
  obtain ⟨hsa, hHa⟩ := ha.heads
  have hnbf := hbf.ilen
  subst hnbf
  have hnb := hb.len
  subst hnb
  obtain ⟨hsb, hHb⟩ := hb.heads
  refine Ji <| Jh (vs := [.agg #[nI Pa, nI Ma, nS Aaf ma kaf, nI Na, nS Aa a ka], .agg #[nI Pb, nI Mb, nS Abf mb kbf, nI Nb, nS Ab b kb]]) [4] XF16 rfl rfl rfl rfl ?_
  have hS := Jp w
  unfold Jb7 at hv
  refine Jd 2 <| JA (z := 5) (cs := [nI Pa, nI Ma, nS Aaf ma kaf, nI Na, nS Aa a ka]) hS rfl rfl rfl rfl ?_
  intro g11 w12 hS
  refine JA (z := 5) (cs := [nI Pb, nI Mb, nS Abf mb kbf, nI Nb, nS Ab b kb]) hS rfl rfl rfl rfl ?_
  intro g13 w14 hS
  refine Jb 2 <| Jd 2 <| JC 1 JJ Qf hS rfl ⟨rfl, rfl⟩ rfl <| SL.call hS (Ja9 (hS.ro haf) (RlH.rl (RlH.ext hHa hS.ext)) hv) XF17 rfl XN17 rfl rfl ?_
  rintro _ _ w15 ⟨r16, rfl, rfl, hv⟩ hGw15 hS
  have hS := hS.n0
  refine Jb 2 <| Jd 6 ?_
  obtain ⟨J18, hv, hk27⟩ := hv
  refine Qq (σ := Int) (fun z17 w1 => J18 z17 /\ St TT w none w1 [.row 27 5 (nA g13) 1 1 [nI Pb, nI Mb, nS Abf mb kbf, nI Nb, nS Ab b kb], .row 27 5 (nA g11) 1 1 [nI Pa, nI Ma, nS Aaf ma kaf, nI Na, nS Aa a ka]]) (fun z17 => [(2, nP g11), (3, nP g13), (4, nI 0), (5, nI z17)]) ?_ ?_
  .refine Jf rfl (fun c19 => ?_) (fun c19 => ?_)
   .have hv := hv.1 (oT c19)
    refine JD <| JC 0 JJ Qf hS rfl ⟨rfl, rfl⟩ rfl <| SL.call hS (Ja9 (hS.ro hbf) (RlH.rl (RlH.ext hHb hS.ext)) hv) XF17 rfl XN17 rfl rfl ?_
    rintro _ _ w20 ⟨r21, rfl, rfl, hv⟩ hGw20 hS
    have hS := hS.n0
    refine Jb 2 ?_
    exact ⟨r21, sp rfl, rfl, hv, hS⟩
   have hv := hv.2 (oF c19)
   refine Jj ?_
   exact ⟨r16, sp rfl, rfl, hv, hS⟩
  rintro z17 w22 ⟨hv, hS⟩
  have hv := hk27 z17 hv
  refine Jd 5 <| Jo rfl rfl ?_
  by_cases g23 : z17 = 0
  .have hv := hv.1 g23
   rw [decide_eq_true g23]
   refine WL.take rfl <| Jc (off := 0) QI rfl rfl <| WL.take rfl <| J0 (cs := [nI Pa, nI Ma, nS Aaf ma kaf]) JW JY rfl rfl (QR (hS.rd (i := 1) rfl) 0 rfl) rfl <| WL.take rfl <| Jc (off := 0) QI rfl rfl <| WL.take rfl <| J0 (cs := [nI Pb, nI Mb, nS Abf mb kbf]) JW JY rfl rfl (QR (hS.rd (i := 0) rfl) 0 rfl) rfl <| WL.take rfl <| SL.call hS (Jga (hS.ro haf) (hS.ro hbf) hv) XF18 rfl XN18 rfl rfl ?_
   rintro _ _ w24 ⟨r25, rfl, rfl, hv⟩ hGw24 hS
   have hS := hS.n0
   refine Jb 4 <| Jf rfl (fun c26 => ?_) (fun c26 => ?_)
   .have hv := hv.1 (c26)
    refine Jd 4 <| W.ret <| ⟨_, rfl, Fin.nil ?_⟩
    exact (hS.pick [] rfl).fin rfl ⟨(10 : Int), rfl, rfl, hv⟩
   have hv := hv.2 (c26)
   refine Jj <| Jd 5 <| W.ret <| ⟨_, rfl, Fin.nil ?_⟩
   exact (hS.pick [] rfl).fin rfl ⟨z17, rfl, rfl, hv⟩
  have hv := hv.2 g23
  rw [decide_eq_false g23]
  refine Jb 8 <| QP rfl <| Jj <| Jd 5 <| W.ret <| ⟨_, rfl, Fin.nil ?_⟩
  exact (hS.pick [] rfl).fin rfl ⟨z17, rfl, rfl, hv⟩
def Jan (Pf : Int) (Mf : Int) (mf : List Int) (u : List Int) (y : List Int) (Q : List Int -> Prop) : Prop :=
  ∃ (I28 : List Int -> Int -> Prop) (μ29 : List Int -> Int -> Nat), I28 ([] : List Int) (0 : Int) /\ ∀ (x23 : List Int) (z27 : Int), (I28 x23 z27 -> (((z27 < (u.length : Int)) -> (∃ (I44 : List Int -> Int -> Prop) (μ45 : List Int -> Int -> Nat), I44 x23 (0 : Int) /\ ∀ (x40 : List Int) (z43 : Int), (I44 x40 z43 -> (((z43 < (y.length : Int)) -> ((0 <= z27 /\ z27 < (u.length : Nat)) /\ ((0 <= z43 /\ z43 < (y.length : Nat)) /\ (∃ (r61 : Int), Jbf Pf Mf mf (gi u z27) (gi y z43) (fun q => q = r61) /\ ((((x40.length : Nat) + (1 : Nat) : Int) * 8 <= 140737488355328) /\ ((I64 (z43 + 1)) /\ (I44 (x40 ++ ([r61] : List Int)) (z43 + 1) /\ μ45 (x40 ++ ([r61] : List Int)) (z43 + 1) < μ45 x40 z43))))))) /\ (¬ (z43 < (y.length : Int)) -> ((I64 (z27 + 1)) /\ (I28 x40 (z27 + 1) /\ μ29 x40 (z27 + 1) < μ29 x23 z27))))))) /\ (¬ (z27 < (u.length : Int)) -> Q x23)))
theorem Jlg {w : World} {Q : List Int -> Prop} {Pf : Int} {Mf : Int} {mf : List Int} {u : List Int} {y : List Int} {Bf : Nat} {Af : Option Addr} {nf kf : Nat} (hf : Rd Bf w 1 Af nf kf (is mf)) {Bu : Nat} {Au : Option Addr} {nu ku : Nat} (hu : Rd Bu w 1 Au nu ku (is u)) {By : Nat} {Ay : Option Addr} {ny ky : Nat} (hy : Rd By w 1 Ay ny ky (is y)) (hv : Jan Pf Mf mf u y Q) :
    Calls Try.prog 32 #[.agg #[.int .i64 Pf, .int .i64 Mf, .slice Af nf kf], .slice Au nu ku, .slice Ay ny ky] w <| Rt w fun v Qr => ∃ (x : List Int)  (A : Option Addr) (c : Nat), v = .slice A x.length c /\ Qr = [.row 3 1 A x.length c (is x)] /\ Q x := by
  have hnf := hf.ilen
  subst hnf
  have hnu := hu.ilen
  subst hnu
  have hny := hy.ilen
  subst hny
  refine Ji <| Jh (vs := [.agg #[nI Pf, nI Mf, nS Af mf kf], nS Au u ku, nS Ay y ky]) [6] XF32 rfl rfl rfl rfl ?_
  have hS := Jp w
  unfold Jan at hv
  refine Jd 2 <| JA (z := 3) (cs := [nI Pf, nI Mf, nS Af mf kf]) hS rfl rfl rfl rfl ?_
  intro g11 w12 hS
  refine Jb 2 <| Jd 9 <| W.block ?_
  obtain ⟨I28, μ29, hv, hk80⟩ := hv
  have hS := hS.nil (e := 3) (z := 1)
  have hm0 : 0 = ([] : List Int).length := (hS.rd (i := 0) rfl).ilen.symm
  have hS := hS.relen (i := 0) rfl hm0
  change St _ _ _ _ [_, _] at hS
  refine Jz (σ := List Int × Int × Option Addr × Nat) (fun q w1 => match q with | (x23, z27, A24, k25) => I28 x23 z27 /\ St TT w none w1 [nR 3 A24 x23 k25, .row 24 3 (nA g11) 1 1 [nI Pf, nI Mf, nS Af mf kf]]) (fun (x23, z27, A24, k25) => [(1, nS Au u ku), (2, nS Ay y ky), (3, nP g11), (6, .slice none 0 0), (7, nS A24 x23 k25), (8, nI z27)]) (fun (x23, z27, A24, k25) => μ29 x23 z27) (([] : List Int), (0 : Int), none, 0) ⟨hv, hS⟩ ⟨rfl, rfl, rfl, rfl, (sm (by first | rfl | assumption | omega)), rfl, trivial⟩ ?_
  rintro ⟨x23, z27, A24, k25⟩ w30 ⟨hv, hS⟩
  have hv := hk80 x23 z27 hv
  refine Jd 5 <| WL.len Jn rfl rfl <| Jb 2 <| Jf rfl (fun c31 => ?_) (fun c31 => ?_)
  .have hv := hv.1 (oT c31)
   refine Jj <| Jv <| W.block <| Jd 4 <| W.block ?_
   obtain ⟨I44, μ45, hv, hk79⟩ := hv
   refine Jz (σ := List Int × Int × Option Addr × Nat) (fun q w1 => match q with | (x40, z43, A41, k42) => I44 x40 z43 /\ St TT w none w1 [nR 3 A41 x40 k42, .row 24 3 (nA g11) 1 1 [nI Pf, nI Mf, nS Af mf kf]]) (fun (x40, z43, A41, k42) => [(1, nS Au u ku), (2, nS Ay y ky), (3, nP g11), (6, .slice none 0 0), (7, nS A41 x40 k42), (8, nI z27), (9, nI z43), (13, .bool (decide (z27 < (u.length : Int))))]) (fun (x40, z43, A41, k42) => μ45 x40 z43) (x23, (0 : Int), A24, k25) ⟨hv, hS⟩ ⟨rfl, rfl, rfl, rfl, rfl, rfl, rfl, rfl, trivial⟩ ?_
   rintro ⟨x40, z43, A41, k42⟩ w46 ⟨hv, hS⟩
   have hv := hk79 x40 z43 hv
   refine Jd 5 <| WL.len Jn rfl rfl <| Jb 2 <| Jf rfl (fun c47 => ?_) (fun c47 => ?_)
   .have hv := hv.1 (oT c47)
    refine Jj <| Jv <| W.block ?_
    obtain ⟨o53, hv⟩ := hv
    obtain ⟨o58, hv⟩ := hv
    obtain ⟨r61, o63, hv⟩ := hv
    have hS0 := hS
    refine QL 12 (fun iA => [false, false, false, false, false, false, false, false, false, false, false, true].getD iA false) (fun _ => none) (fun _ v u => u = v) [⟨[], [7], true⟩, ⟨[], [3], false⟩, ⟨[], [1], true⟩, ⟨[], [8], true⟩, ⟨[2, 3], [], true⟩, ⟨[4], [], false⟩, ⟨[], [2], true⟩, ⟨[], [9], true⟩, ⟨[6, 7], [], true⟩, ⟨[8], [], false⟩, ⟨[1, 5, 9], [], false⟩, ⟨[10], [], false⟩] [.k 22 (nS A41 x40 k42), .k 23 (.agg #[nI Pf, nI Mf, nS Af mf kf]), .k 24 (nS Au u ku), .k 25 (nI z27), .k 26 (.pointer (some ((JI Au).add z27.toNat))), .k 27 (nI (gi u z27)), .k 28 (nS Ay y ky), .k 29 (nI z43), .k 30 (.pointer (some ((JI Ay).add z43.toNat))), .k 31 (nI (gi y z43)), .k 32 (nI r61), eS w46 33 3 1 (is ([r61] : List Int))] (fun _ => vbD) Try.mixed (by kernel_rfl) rfl rfl (fun _ _ _ _ _ _ _ h => h) ?_ ?_
    . refine ⟨oC, og hS fun _ _ hS => JC 1 JW JY hS rfl ⟨rfl, rfl⟩ rfl <| Ja ⟨rfl, Je _⟩, oC, oC, fun _ _ _ => Jg Jn XE3 (hS.ro hu) rfl rfl o53 rfl <| Ja ⟨rfl, rfl⟩, og hS fun _ _ hS => Jk XU3 rfl rfl (JH (hS.ro hu) o53) rfl <| Ja ⟨rfl, Je _⟩, oC, oC, fun _ _ _ => Jg Jn XE3 (hS.ro hy) rfl rfl o58 rfl <| Ja ⟨rfl, rfl⟩, og hS fun _ _ hS => Jk XU3 rfl rfl (JH (hS.ro hy) o58) rfl <| Ja ⟨rfl, Je _⟩, ?_, ?_, trivial⟩
      . intro w60 hE
        have hS := hS.grow (hE rfl)
        intro RR
        refine WL.call XF53 rfl XN53 rfl rfl (JO (Jdx (hS.ro hf) o63)) ?_
        rintro _ w62 ⟨_, hGw62, hRww62, hNww62, r61q, rfl, rfl, he⟩
        subst he
        exact Ja ⟨rfl, hGw62⟩
      intro w64 hE
      have hE := hE rfl
      have hS := hS.grow hE
      intro RR
      refine Jvo (vs := is ([r61] : List Int)) Jn XE3 rfl rfl rfl rfl (Qj _) rfl ?_
      intro A65 k68 w66 hO69 hN70g hGw66
      have hN70 : ∀ g, bl A65 = some g -> _ <= g := fun g hg => Nat.le_trans hE.size (hN70g g hg)
      exact Ja ⟨_, rfl, hGw66, ⟨A65, k68, rfl, hO69, hN70⟩, (fun _ => fun g hg => ⟨hN70g g hg, (hO69.bl_ge g hg).2⟩), (fun j h => by cases h)⟩
    intro vals w71 hT hVs hAp hCp
    have hS := hS.grow hT
    obtain ⟨A65_11, k68_11, hv11, hO69_11, hN70_11⟩ := hVs 11 (by decide)
    have hS := Qd [] hS0 hS hO69_11 hN70_11 (fun s hs => by cases hs)
    refine YL [(11, .slice A65_11 1 k68_11)] ⟨hv11, trivial⟩ <| Jm 12 rfl ?_
    obtain ⟨o73, hv⟩ := hv
    refine SL.append (cs := is x40) (cs' := is ([r61] : List Int)) 1 ((x40 ++ ([r61] : List Int)).length) (is (x40 ++ ([r61] : List Int))) hS rfl Jn XE3 (hS.rd (i := 0) rfl) (Qj _) rfl rfl (apk o73).1 (apk o73).2 (ZN (hS.rd (i := 1) rfl) (hS.rd (i := 0) rfl)) (Qh _ _) rfl ?_
    intro A74 k75 w76 hS
    refine Ja <| Jm 13 rfl <| Jb 2 <| JL <| Jd 2 ?_
    obtain ⟨o77, hv⟩ := hv
    refine WL.add (r := (z43 + 1)) rfl rfl (wr o77) rfl <| Jb 2 ?_
    have hS := hS.pick [1, 2] rfl
    exact ⟨(x40 ++ ([r61] : List Int), (z43 + 1), A74, k75), sp rfl, hv.2, rfl, hv.1, hS⟩
   have hv := hv.2 (oF c47)
   refine Jt <| Jd 2 ?_
   obtain ⟨o78, hv⟩ := hv
   refine WL.add (r := (z27 + 1)) rfl rfl (wr o78) rfl <| Jb 2 ?_
   exact ⟨(x40, (z27 + 1), A41, k42), sp rfl, hv.2, rfl, hv.1, hS⟩
  have hv := hv.2 (oF c31)
  refine Jt <| Jd 5 <| W.ret <| ⟨_, rfl, Fin.nil ?_⟩
  exact (hS.pick [0] rfl).fin rfl ⟨x23, A24, k25, rfl, rfl, hv⟩
def Y4 (Pa : Int) (Ma : Int) (ma : List Int) (Na : Int) (a : List (List Int)) (Pb : Int) (Mb : Int) (mb : List Int) (Nb : Int) (b : List (List Int)) (Q : Int × Int × List Int × Int × List (List Int) × Int -> Prop) : Prop :=
  Jb7 Pa Ma ma Na a Pb Mb mb Nb b (fun r18 => ((r18 ≠ 0) -> (Q ((0 : Int), (0 : Int), ([] : List Int), (0 : Int), ([] : List (List Int)), r18))) /\ (¬ (r18 ≠ 0) -> ((I64 (Na * Nb)) /\ ((((64 : Int) < (Na * Nb)) -> (Q ((0 : Int), (0 : Int), ([] : List Int), (0 : Int), ([] : List (List Int)), (4 : Int)))) /\ (¬ ((64 : Int) < (Na * Nb)) -> (∃ (I44 : List (List Int) -> Int -> Prop) (μ45 : List (List Int) -> Int -> Nat), I44 ([] : List (List Int)) (0 : Int) /\ ∀ (x38 : List (List Int)) (z43 : Int), (I44 x38 z43 -> (((z43 < (a.length : Int)) -> (∃ (I63 : List (List Int) -> Int -> Prop) (μ64 : List (List Int) -> Int -> Nat), I63 x38 (0 : Int) /\ ∀ (x58 : List (List Int)) (z62 : Int), (I63 x58 z62 -> (((z62 < (b.length : Int)) -> (∃ J71 : List (List Int) -> Prop, ((0 <= z43 /\ z43 < (a.length : Nat)) /\ ((0 <= z62 /\ z62 < (b.length : Nat)) /\ (∃ (x88 : List Int), Jan Pa Ma ma (gl a z43) (gl b z62) (fun q => q = x88) /\ ((((x58.length : Nat) + (1 : Nat) : Int) * 24 <= 140737488355328) /\ (J71 (x58 ++ [x88])))))) /\ ∀ (x67 : List (List Int)), (J71 x67 -> ((I64 (z62 + 1)) /\ (I63 x67 (z62 + 1) /\ μ64 x67 (z62 + 1) < μ64 x58 z62))))) /\ (¬ (z62 < (b.length : Int)) -> ((I64 (z43 + 1)) /\ (I44 x58 (z43 + 1) /\ μ45 x58 (z43 + 1) < μ45 x38 z43))))))) /\ (¬ (z43 < (a.length : Int)) -> ((I64 (Na * Nb)) /\ (Z7 Pa Ma ma x38 (Na * Nb) (fun (r112, r113, x114, c115, x116) => Q (r112, r113, x114, c115, x116, (0 : Int))))))))))))))
theorem Jhk {w : World} {Q : Int × Int × List Int × Int × List (List Int) × Int -> Prop} {Pa : Int} {Ma : Int} {ma : List Int} {Na : Int} {a : List (List Int)} {Pb : Int} {Mb : Int} {mb : List Int} {Nb : Int} {b : List (List Int)} {Baf : Nat} {Aaf : Option Addr} {naf kaf : Nat} (haf : Rd Baf w 1 Aaf naf kaf (is ma)) {Aa : Option Addr} {na ka : Nat} (ha : Rl w Aa na ka a) {Bbf : Nat} {Abf : Option Addr} {nbf kbf : Nat} (hbf : Rd Bbf w 1 Abf nbf kbf (is mb)) {Ab : Option Addr} {nb kb : Nat} (hb : Rl w Ab nb kb b) (hv : Y4 Pa Ma ma Na a Pb Mb mb Nb b Q) :
    Calls Try.prog 13 #[.agg #[.int .i64 Pa, .int .i64 Ma, .slice Aaf naf kaf, .int .i64 Na, .slice Aa na ka], .agg #[.int .i64 Pb, .int .i64 Mb, .slice Abf nbf kbf, .int .i64 Nb, .slice Ab nb kb]] w <| Rt w fun v Qr => ∃ (p0 : Int) (m0 : Int) (f0 : List Int) (c0 : Int) (r0 : List (List Int)) (r1 : Int) (A0f : Option Addr) (k0f : Nat) (A0 : Option Addr) (k0 : Nat) (hs0 : Hs), v = .tuple #[.agg #[.int .i64 p0, .int .i64 m0, .slice A0f f0.length k0f, .int .i64 c0, .slice A0 r0.length k0], .int .i64 r1] /\ Qr = [.row 3 1 A0f f0.length k0f (is f0), mx 22 3 A0 r0.length k0 hs0 r0] /\ Q (p0, m0, f0, c0, r0, r1) := by
  have hnaf := haf.ilen
  subst hnaf
  have hna := ha.len
  subst hna
  obtain ⟨hsa, hHa⟩ := ha.heads
  have hnbf := hbf.ilen
  subst hnbf
  have hnb := hb.len
  subst hnb
  obtain ⟨hsb, hHb⟩ := hb.heads
  refine Ji <| J8 (vs := [.agg #[nI Pa, nI Ma, nS Aaf ma kaf, nI Na, nS Aa a ka], .agg #[nI Pb, nI Mb, nS Abf mb kbf, nI Nb, nS Ab b kb]]) [.cell 4 27, .tmp 5] XF13 rfl rfl rfl rfl ?_
  have hS := Jp w
  unfold Y4 at hv
  refine Jd 2 <| JA (z := 5) (cs := [nI Pa, nI Ma, nS Aaf ma kaf, nI Na, nS Aa a ka]) hS rfl rfl rfl rfl ?_
  intro g11 w12 hS
  refine JA (z := 5) (cs := [nI Pb, nI Mb, nS Abf mb kbf, nI Nb, nS Ab b kb]) hS rfl rfl rfl rfl ?_
  intro g13 w14 hS
  refine SL.alloc (cs := [nI 0, nI 0, .slice none 0 0, nI 0, .slice none 0 0]) hS JJ rfl rfl ?_
  intro g15 w16 hS
  refine Jb 2 <| Jd 2 <| JC 2 JJ Qf hS rfl ⟨rfl, rfl⟩ rfl <| JC 1 JJ Qf hS rfl ⟨rfl, rfl⟩ rfl <| SL.call hS (Jq8 (hS.ro haf) (RlH.rl (RlH.ext hHa hS.ext)) (hS.ro hbf) (RlH.rl (RlH.ext hHb hS.ext)) hv) XF16 rfl XN16 rfl rfl ?_
  rintro _ _ w17 ⟨r18, rfl, rfl, hv⟩ hGw17 hS
  have hS := hS.n0
  refine Jb 2 <| Jd 6 <| Jf rfl (fun c19 => ?_) (fun c19 => ?_)
  .have hv := hv.1 (oT c19)
   refine Jd 2 <| JQ (cells := #[nI 0, nI 0, .slice none 0 0, nI 0, .slice none 0 0]) Jaz rfl rfl rfl <| Jo rfl rfl <| Jw (cs := [nI 0, nI 0, .slice none 0 0, nI 0, .slice none 0 0]) 0 hS rfl JJ rfl rfl rfl rfl rfl ?_
   intro w20 hS
   refine Jb 2 <| W.ret ?_
   have hS := hS.nil (e := 3) (z := 1)
   have hS := hS.mxNil 22 3
   have hm4 := hS.mxlen (i := 0) rfl
   have hS := hS.relenMx (i := 0) rfl hm4.symm
   change St _ _ _ _ [_, _, _, _, _] at hS
   repeat with_reducible first | refine blk.ret ?_ | refine exits.retI ?_
   refine endC.mk ⟨[.agg #[nI 0, nI 0, .slice none 0 0, nI 0, .slice none 0 0], nI r18], ⟨_, _, _, rfl, rfl, JB (cs := [nI 0, nI 0, .slice none 0 0, nI 0, .slice none 0 0]) JJ Qf rfl (Ju (hS.own (i := 2) rfl)), ⟨_, _, rfl, rfl, rfl⟩⟩, ?_⟩
   exact ⟨_, hS.ext, (hS.pick [1, 0] rfl).rows, J4 (hS.pick [1, 0] rfl).rows rfl, ⟨(0 : Int), (0 : Int), ([] : List Int), (0 : Int), ([] : List (List Int)), r18, none, 0, none, 0, (fun _ => (none, 0)), (by (try unfold nS); first | (rw [show (Value.slice none 0 0) = Value.slice none (([] : List (List Int))).length 0 from sm0 hm4.symm]; done) | (rw [show (Value.slice none 0 0) = Value.slice none (([] : List (List Int))).length 0 from sm0 hm4.symm]; rfl)), rfl, hv⟩⟩
  have hv := hv.2 (oF c19)
  refine Jj <| Jd 3 <| Jc (off := 3) Qm rfl rfl <| Jl 2 3 XU3 hS rfl rfl rfl ⟨rfl, rfl⟩ <| Jc (off := 3) Qm rfl rfl <| Jl 1 3 XU3 hS rfl rfl rfl ⟨rfl, rfl⟩ ?_
  obtain ⟨o22, hv⟩ := hv
  refine WL.mul (r := (Na * Nb)) rfl rfl (wr o22) rfl <| Jb 2 <| Jf rfl (fun c23 => ?_) (fun c23 => ?_)
  .have hv := hv.1 (oT c23)
   refine Jd 2 <| JQ (cells := #[nI 0, nI 0, .slice none 0 0, nI 0, .slice none 0 0]) Jaz rfl rfl rfl <| Jw (cs := [nI 0, nI 0, .slice none 0 0, nI 0, .slice none 0 0]) 0 hS rfl JJ rfl rfl rfl rfl rfl ?_
   intro w24 hS
   refine Jb 2 <| W.ret ?_
   have hS := hS.nil (e := 3) (z := 1)
   have hS := hS.mxNil 22 3
   have hm4 := hS.mxlen (i := 0) rfl
   have hS := hS.relenMx (i := 0) rfl hm4.symm
   change St _ _ _ _ [_, _, _, _, _] at hS
   repeat with_reducible first | refine blk.ret ?_ | refine exits.retI ?_
   refine endC.mk ⟨[.agg #[nI 0, nI 0, .slice none 0 0, nI 0, .slice none 0 0], nI 4], ⟨_, _, _, rfl, rfl, JB (cs := [nI 0, nI 0, .slice none 0 0, nI 0, .slice none 0 0]) JJ Qf rfl (Ju (hS.own (i := 2) rfl)), ⟨_, _, rfl, rfl, rfl⟩⟩, ?_⟩
   exact ⟨_, hS.ext, (hS.pick [1, 0] rfl).rows, J4 (hS.pick [1, 0] rfl).rows rfl, ⟨(0 : Int), (0 : Int), ([] : List Int), (0 : Int), ([] : List (List Int)), (4 : Int), none, 0, none, 0, (fun _ => (none, 0)), (by (try unfold nS); first | (rw [show (Value.slice none 0 0) = Value.slice none (([] : List (List Int))).length 0 from sm0 hm4.symm]; done) | (rw [show (Value.slice none 0 0) = Value.slice none (([] : List (List Int))).length 0 from sm0 hm4.symm]; rfl)), rfl, hv⟩⟩
  have hv := hv.2 (oF c23)
  refine Jj <| Jd 9 <| W.block ?_
  obtain ⟨I44, μ45, hv, hk125⟩ := hv
  have hS := hS.mxNil 22 3
  have hm0 : 0 = ([] : List (List Int)).length := (hS.mxlen (i := 0) rfl).symm
  have hS := hS.relenMx (i := 0) rfl hm0
  change St _ _ _ _ [_, _, _, _] at hS
  refine Jz (σ := List (List Int) × Int × Option Addr × Nat × Hs) (fun q w1 => match q with | (x38, z43, A39, k40, hs41) => I44 x38 z43 /\ St TT w none w1 [mx 22 3 A39 x38.length k40 hs41 x38, .row 27 5 (nA g15) 1 1 [nI 0, nI 0, .slice none 0 0, nI 0, .slice none 0 0], .row 27 5 (nA g13) 1 1 [nI Pb, nI Mb, nS Abf mb kbf, nI Nb, nS Ab b kb], .row 27 5 (nA g11) 1 1 [nI Pa, nI Ma, nS Aaf ma kaf, nI Na, nS Aa a ka]]) (fun (x38, z43, A39, k40, hs41) => [(2, nP g11), (3, nP g13), (4, nP g15), (5, nI 0), (7, nS A39 x38 k40), (8, nI z43)]) (fun (x38, z43, A39, k40, hs41) => μ45 x38 z43) (([] : List (List Int)), (0 : Int), none, 0, (fun _ => (none, 0))) ⟨hv, hS⟩ ⟨rfl, rfl, rfl, rfl, (sm (by first | rfl | assumption | omega)), rfl, trivial⟩ ?_
  rintro ⟨x38, z43, A39, k40, hs41⟩ w46 ⟨hv, hS⟩
  have hv := hk125 x38 z43 hv
  refine Jd 4 <| Jc (off := 4) QH rfl rfl <| Jl 3 4 Jr hS rfl rfl rfl ⟨rfl, rfl⟩ <| WL.len Jr rfl rfl <| Jb 2 <| Jf rfl (fun c47 => ?_) (fun c47 => ?_)
  .have hv := hv.1 (oT c47)
   refine Jj <| Jv <| W.block <| Jd 4 <| W.block ?_
   obtain ⟨I63, μ64, hv, hk109⟩ := hv
   refine Jz (σ := List (List Int) × Int × Option Addr × Nat × Hs) (fun q w1 => match q with | (x58, z62, A59, k60, hs61) => I63 x58 z62 /\ St TT w none w1 [mx 22 3 A59 x58.length k60 hs61 x58, .row 27 5 (nA g15) 1 1 [nI 0, nI 0, .slice none 0 0, nI 0, .slice none 0 0], .row 27 5 (nA g13) 1 1 [nI Pb, nI Mb, nS Abf mb kbf, nI Nb, nS Ab b kb], .row 27 5 (nA g11) 1 1 [nI Pa, nI Ma, nS Aaf ma kaf, nI Na, nS Aa a ka]]) (fun (x58, z62, A59, k60, hs61) => [(2, nP g11), (3, nP g13), (4, nP g15), (5, nI 0), (7, nS A59 x58 k60), (8, nI z43), (9, nI z62), (28, .bool (decide (z43 < (a.length : Int))))]) (fun (x58, z62, A59, k60, hs61) => μ64 x58 z62) (x38, (0 : Int), A39, k40, hs41) ⟨hv, hS⟩ ⟨rfl, rfl, rfl, rfl, rfl, rfl, rfl, rfl, trivial⟩ ?_
   rintro ⟨x58, z62, A59, k60, hs61⟩ w65 ⟨hv, hS⟩
   have hv := hk109 x58 z62 hv
   refine Jd 4 <| Jc (off := 4) QH rfl rfl <| Jl 2 4 Jr hS rfl rfl rfl ⟨rfl, rfl⟩ <| WL.len Jr rfl rfl <| Jb 2 <| Jf rfl (fun c66 => ?_) (fun c66 => ?_)
   .have hv := hv.1 (oT c66)
    refine Jj <| Jv ?_
    obtain ⟨J71, hv, hk107⟩ := hv
    refine Qq (σ := List (List Int) × Option Addr × Nat × Hs) (fun q w1 => match q with | (x67, A68, k69, hs70) => J71 x67 /\ St TT w none w1 [mx 22 3 A68 x67.length k69 hs70 x67, .row 27 5 (nA g15) 1 1 [nI 0, nI 0, .slice none 0 0, nI 0, .slice none 0 0], .row 27 5 (nA g13) 1 1 [nI Pb, nI Mb, nS Abf mb kbf, nI Nb, nS Ab b kb], .row 27 5 (nA g11) 1 1 [nI Pa, nI Ma, nS Aaf ma kaf, nI Na, nS Aa a ka]]) (fun (x67, A68, k69, hs70) => [(2, nP g11), (3, nP g13), (4, nP g15), (5, nI 0), (7, nS A68 x67 k69), (8, nI z43), (9, nI z62), (28, .bool (decide (z43 < (a.length : Int)))), (35, .bool (decide (z62 < (b.length : Int))))]) ?_ ?_
    .refine W.block ?_
     obtain ⟨o79, hv⟩ := hv
     obtain ⟨o85, hv⟩ := hv
     obtain ⟨x88, o95, hv⟩ := hv
     have hS0 := hS
     refine YB 14 [0] (fun iA => [false, false, false, false, false, false, false, false, false, false, false, false, false, true].getD iA false) (fun _ => none) (fun _ v u => u = v) [⟨[], [7], true⟩, ⟨[], [2], true⟩, ⟨[1], [], false⟩, ⟨[], [2], true⟩, ⟨[3], [], false⟩, ⟨[], [8], true⟩, ⟨[4, 5], [], true⟩, ⟨[6], [], false⟩, ⟨[], [3], true⟩, ⟨[8], [], false⟩, ⟨[], [9], true⟩, ⟨[9, 10], [], true⟩, ⟨[11], [], false⟩, ⟨[2, 7, 12], [], false⟩] [.k 38 (nS A59 x58 k60), .k 39 (nP g11), .k 40 (.agg #[nI Pa, nI Ma, nS Aaf ma kaf]), .k 41 (.pointer (some ((⟨g11, 0, none⟩ : Addr).add 4))), .k 42 (nS Aa a ka), .k 43 (nI z43), .k 44 (.pointer (some ((JI Aa).add z43.toNat))), .k 45 (.slice ((hsa z43.toNat).1) ((gl a z43).length) ((hsa z43.toNat).2)), .k 46 (.pointer (some ((⟨g13, 0, none⟩ : Addr).add 4))), .k 47 (nS Ab b kb), .k 48 (nI z62), .k 49 (.pointer (some ((JI Ab).add z62.toNat))), .k 50 (.slice ((hsb z62.toNat).1) ((gl b z62).length) ((hsb z62.toNat).2)), eS w65 51 3 x88.length (is x88)] (fun _ => vbD) Try.mixed (by kernel_rfl) rfl rfl (fun _ _ _ _ _ _ _ h => h) ?_ ?_
     . refine ⟨oC, fun _ _ _ => Jc (off := 0) QI rfl rfl <| Ja ⟨rfl, rfl⟩, og hS fun _ _ hS => J0 (cs := [nI Pa, nI Ma, nS Aaf ma kaf]) JW JY rfl rfl (QR (hS.rd (i := 3) rfl) 0 rfl) rfl <| Ja ⟨rfl, Je _⟩, fun _ _ _ => Jc (off := 4) QH rfl rfl <| Ja ⟨rfl, rfl⟩, og hS fun _ _ hS => Jl 3 4 Jr hS rfl rfl rfl ⟨rfl, rfl⟩ <| Ja ⟨rfl, Je _⟩, oC, fun _ _ _ => JT Jr Js hHa rfl rfl o79 rfl <| Ja ⟨rfl, rfl⟩, og hS fun _ _ hS => Jk Jn rfl rfl (hS.cell (RlH.cell hHa o79)) rfl <| Ja ⟨rfl, Je _⟩, fun _ _ _ => Jc (off := 4) QH rfl rfl <| Ja ⟨rfl, rfl⟩, og hS fun _ _ hS => Jl 2 4 Jr hS rfl rfl rfl ⟨rfl, rfl⟩ <| Ja ⟨rfl, Je _⟩, oC, fun _ _ _ => JT Jr Js hHb rfl rfl o85 rfl <| Ja ⟨rfl, rfl⟩, og hS fun _ _ hS => Jk Jn rfl rfl (hS.cell (RlH.cell hHb o85)) rfl <| Ja ⟨rfl, Je _⟩, ?_, trivial⟩
       intro w87 hE
       have hE := hE rfl
       have hS := hS.grow hE
       intro RR
       refine WL.call XF32 rfl XN32 rfl rfl (JO (Jlg (hS.ro haf) (hS.ro (Qe hHa o79)) (hS.ro (Qe hHb o85)) o95)) ?_
       rintro _ w92 ⟨_, hGw92, hRww92, hNww92, x88q, A89, k90, rfl, rfl, he⟩
       subst he
       have hO93 := (hRww92.get (i := 0) rfl).1
       have hN94 : ∀ g, bl A89 = some g -> _ <= g := fun g hg => Nat.le_trans hE.size (hNww92.1 g hg)
       exact Ja ⟨_, rfl, hGw92, ⟨A89, k90, rfl, hO93, hN94⟩, (fun _ => fun g hg => ⟨hNww92.1 g hg, (hO93.bl_ge g hg).2⟩), (fun j h => by cases h)⟩
     intro X hX
     have hX : X ∈ ([[], [0]] : List (List Nat)) := hX
     simp only [List.mem_cons, List.not_mem_nil, or_false] at hX
     rcases hX with rfl | rfl
     .intro vals w96 hT hVs hAp hCp q_ hq_
      have hS := hS.grow hT
      obtain rfl : q_ = 3 := hq_.trans (by decide +kernel)
      obtain ⟨A89_13, k90_13, hv13, hO93_13, hN94_13⟩ := hVs 13 (by decide) (by decide)
      have hS := Qd [] hS0 hS hO93_13 hN94_13 (fun s hs => by cases hs)
      refine YL [(13, nS A89_13 x88 k90_13)] ⟨hv13, trivial⟩ <| Jm 14 rfl <| Qu (vs := [nS A89_13 x88 k90_13]) hS Jr Js rfl rfl rfl rfl (by simp [Value.oneCell']) rfl ?_
      intro A98 w99 hS
      refine Ja <| Jm 15 rfl ?_
      obtain ⟨o101, hv⟩ := hv
      have hS := hS.pick [2, 0, 1, 3, 4, 5] rfl
      have hS := hS.pick [1, 2, 0, 3, 4, 5] rfl
      have hS := YT (hS.rd (i := 1) rfl).ilen.symm hS
      change St _ _ _ _ [_, _, _, _, _] at hS
      refine QM hS Jr Js rfl rfl (apk o101).1 (apk o101).2 rfl ?_
      intro A102 k103 w104 hS
      refine Ja <| Jm 16 rfl <| Jb 2 <| JL ?_
      exact ⟨(x58 ++ [x88], A102, k103, (Z5 x58.length hs61 (fun _ => (A89_13, k90_13)))), sp rfl, rfl, hv, hS⟩
     intro vals w96 hT hVs hAp hCp q_ hq_
     have hS := hS.grow hT
     obtain rfl : q_ = 4 := hq_.trans (by decide +kernel)
     obtain ⟨A89_13, k90_13, hv13, hO93_13, hN94_13⟩ := hVs 13 (by decide) (by decide)
     have hS := Qd [] hS0 hS hO93_13 hN94_13 (fun s hs => by cases hs)
     refine YL [(13, nS A89_13 x88 k90_13)] ⟨hv13, trivial⟩ <| QD 0 14 rfl rfl ?_ ?_
     .refine Jb 2 <| Jm 14 rfl <| Qu (vs := [nS A89_13 x88 k90_13]) hS Jr Js rfl rfl rfl rfl (by simp [Value.oneCell']) rfl ?_
      intro A98 w99 hS
      refine Ja <| Jm 15 rfl ?_
      obtain ⟨o101, hv⟩ := hv
      have hS := hS.pick [2, 0, 1, 3, 4, 5] rfl
      have hS := hS.pick [1, 2, 0, 3, 4, 5] rfl
      have hS := YT (hS.rd (i := 1) rfl).ilen.symm hS
      change St _ _ _ _ [_, _, _, _, _] at hS
      refine QM hS Jr Js rfl rfl (apk o101).1 (apk o101).2 rfl ?_
      intro A102 k103 w104 hS
      refine Ja <| Jm 16 rfl <| Jb 2 <| JL ?_
      exact ⟨(x58 ++ [x88], A102, k103, (Z5 x58.length hs61 (fun _ => (A89_13, k90_13)))), sp rfl, rfl, hv, hS⟩
     refine Qu (vs := [nS A89_13 x88 k90_13]) hS Jr Js rfl rfl rfl rfl (by simp [Value.oneCell']) rfl ?_
     intro A98 w99 hS
     refine Ja <| Jm 0 rfl <| Jb 2 <| Jm 15 rfl ?_
     obtain ⟨o101, hv⟩ := hv
     have hS := hS.pick [2, 0, 1, 3, 4, 5] rfl
     have hS := hS.pick [1, 2, 0, 3, 4, 5] rfl
     have hS := YT (hS.rd (i := 1) rfl).ilen.symm hS
     change St _ _ _ _ [_, _, _, _, _] at hS
     refine QM hS Jr Js rfl rfl (apk o101).1 (apk o101).2 rfl ?_
     intro A102 k103 w104 hS
     refine Ja <| Jm 16 rfl <| Jb 2 <| JL ?_
     exact ⟨(x58 ++ [x88], A102, k103, (Z5 x58.length hs61 (fun _ => (A89_13, k90_13)))), sp rfl, rfl, hv, hS⟩
    rintro ⟨x67, A68, k69, hs70⟩ w105 ⟨hv, hS⟩
    have hv := hk107 x67 hv
    refine Jd 2 ?_
    obtain ⟨o106, hv⟩ := hv
    refine WL.add (r := (z62 + 1)) rfl rfl (wr o106) rfl <| Jb 2 ?_
    exact ⟨(x67, (z62 + 1), A68, k69, hs70), sp rfl, hv.2, rfl, hv.1, hS⟩
   have hv := hv.2 (oF c66)
   refine Jt <| Jd 2 ?_
   obtain ⟨o108, hv⟩ := hv
   refine WL.add (r := (z43 + 1)) rfl rfl (wr o108) rfl <| Jb 2 ?_
   exact ⟨(x58, (z43 + 1), A59, k60, hs61), sp rfl, hv.2, rfl, hv.1, hS⟩
  have hv := hv.2 (oF c47)
  refine Jt <| Jd 2 <| Jc (off := 0) QI rfl rfl <| J0 (cs := [nI Pa, nI Ma, nS Aaf ma kaf]) JW JY rfl rfl (QR (hS.rd (i := 3) rfl) 0 rfl) rfl <| Jo rfl rfl <| Jc (off := 3) Qm rfl rfl <| Jl 3 3 XU3 hS rfl rfl rfl ⟨rfl, rfl⟩ <| Jc (off := 3) Qm rfl rfl <| Jl 2 3 XU3 hS rfl rfl rfl ⟨rfl, rfl⟩ ?_
  obtain ⟨o110, hv⟩ := hv
  refine WL.mul (r := (Na * Nb)) rfl rfl (wr o110) rfl <| SL.call hS (Jf9 (hS.ro haf) (hS.rl (i := 0) rfl) hv) XF23 rfl XN23 rfl rfl ?_
  rintro _ _ w111 ⟨r112, r113, x114, c115, x116, A117, k118, A120, k121, hs122, rfl, rfl, hv⟩ hGw111 hS
  have hS := hS.n2
  refine Jw (cs := [nI r112, nI r113, nS A117 x114 k118, nI c115, nS A120 x116 k121]) 3 hS rfl JJ rfl rfl rfl rfl rfl ?_
  intro w124 hS
  refine Jb 2 <| W.ret ?_
  have hS := hS.pick [1, 0, 2, 3, 4, 5] rfl
  change St _ _ _ _ [_, _, _, _, _, _] at hS
  repeat with_reducible first | refine blk.ret ?_ | refine exits.retI ?_
  refine endC.mk ⟨[.agg #[nI r112, nI r113, nS A117 x114 k118, nI c115, nS A120 x116 k121], nI 0], ⟨_, _, _, rfl, rfl, JB (cs := [nI r112, nI r113, nS A117 x114 k118, nI c115, nS A120 x116 k121]) JJ Qf rfl (Ju (hS.own (i := 3) rfl)), ⟨_, _, rfl, rfl, rfl⟩⟩, ?_⟩
  exact (hS.pick [1, 0] rfl).fin rfl ⟨r112, r113, x114, c115, x116, (0 : Int), A117, k118, A120, k121, hs122, rfl, rfl, hv⟩
end Go.Proofs.Ytgjloioccgcceaa
set_option linter.unusedSimpArgs false
set_option linter.unusedVariables false
set_option maxRecDepth 4000
set_option maxHeartbeats 4000000
namespace Go.Proofs.Ytgjloioccgcceaa
open Go.RowKit
def Jip (l : List Int) (o : List Int) (Q : Bool -> Prop) : Prop :=
  (((l.length : Int) ≠ (o.length : Int)) -> Q false) /\ (¬ ((l.length : Int) ≠ (o.length : Int)) -> (∃ (I15 : Int -> Prop) (μ16 : Int -> Nat), I15 0 /\ ∀ (z14 : Int), (I15 z14 -> (((z14 < (l.length : Int)) -> ((0 <= z14 /\ z14 < (l.length : Nat)) /\ ((0 <= z14 /\ z14 < (o.length : Nat)) /\ ((((gi l z14) ≠ (gi o z14)) -> Q false) /\ (¬ ((gi l z14) ≠ (gi o z14)) -> ((I64 (z14 + 1)) /\ (I15 (z14 + 1) /\ μ16 (z14 + 1) < μ16 z14))))))) /\ (¬ (z14 < (l.length : Int)) -> Q true)))))
theorem Jrb {w : World} {Q : Bool -> Prop} {l : List Int} {o : List Int} {Bl : Nat} {Al : Option Addr} {nl kl : Nat} (hl : Rd Bl w 1 Al nl kl (is l)) {Bo : Nat} {Ao : Option Addr} {no ko : Nat} (ho : Rd Bo w 1 Ao no ko (is o)) (hv : Jip l o Q) :
    Calls Try.prog 44 #[.slice Al nl kl, .slice Ao no ko] w <| Rt w fun v Qr => ∃ (r0 : Bool), v = .bool r0 /\ Qr = [] /\ Q r0 := by
  have hnl := hl.ilen
  subst hnl
  have hno := ho.ilen
  subst hno
  refine Ji <| Jh (vs := [nS Al l kl, nS Ao o ko]) [4] XF44 rfl rfl rfl rfl ?_
  have hS := Jp w
  unfold Jip at hv
  refine Jd 8 <| WL.len Jn rfl rfl <| Jo rfl rfl <| WL.len Jn rfl rfl <| Jb 2 <| Jf rfl (fun c11 => ?_) (fun c11 => ?_)
  .have hv := hv.1 (oT c11)
   refine Jd 4 <| W.ret <| ⟨_, rfl, Fin.nil ?_⟩
   exact (hS.pick [] rfl).fin rfl ⟨false, rfl, rfl, hv⟩
  have hv := hv.2 (oF c11)
  refine Jj <| Jd 4 <| WL.len Jn rfl rfl <| Jb 2 <| W.block ?_
  obtain ⟨I15, μ16, hv, hk33⟩ := hv
  refine Jz (σ := Int) (fun z14 w1 => I15 z14 /\ St TT w none w1 []) (fun z14 => [(0, nS Al l kl), (1, nS Ao o ko), (4, .bool false), (12, nI (l.length : Int)), (13, nI z14)]) (fun z14 => μ16 z14) (0 : Int) ⟨hv, hS⟩ ⟨rfl, rfl, rfl, rfl, rfl, trivial⟩ ?_
  rintro z14 w17 ⟨hv, hS⟩
  have hv := hk33 z14 hv
  refine Jd 5 <| Jf rfl (fun c18 => ?_) (fun c18 => ?_)
  .have hv := hv.1 (oT c18)
   refine Jj <| Jv <| W.block <| Jd 6 ?_
   obtain ⟨o22, hv⟩ := hv
   obtain ⟨o27, hv⟩ := hv
   refine JP 9 [⟨[], [0], true⟩, ⟨[], [5], true⟩, ⟨[0, 1], [], true⟩, ⟨[2], [], false⟩, ⟨[], [1], true⟩, ⟨[], [5], true⟩, ⟨[4, 5], [], true⟩, ⟨[6], [], false⟩, ⟨[3, 7], [], true⟩] [(16, nS Al l kl), (17, nI z14), (18, .pointer (some ((JI Al).add z14.toNat))), (19, nI (gi l z14)), (20, nS Ao o ko), (21, nI z14), (22, .pointer (some ((JI Ao).add z14.toNat))), (23, nI (gi o z14)), (24, .bool (decide ((gi l z14) ≠ (gi o z14))))] Try.mixed (by kernel_rfl) rfl rfl ?_ ?_
   . refine ⟨oD, oD, fun _ _ _ => Jg Jn XE3 (hS.ro hl) rfl rfl o22 rfl <| Ja ⟨rfl, rfl⟩, og hS fun _ _ hS => Jk XU3 rfl rfl (JH (hS.ro hl) o22) rfl <| Ja ⟨rfl, Je _⟩, oD, oD, fun _ _ _ => Jg Jn XE3 (hS.ro ho) rfl rfl o27 rfl <| Ja ⟨rfl, rfl⟩, og hS fun _ _ hS => Jk XU3 rfl rfl (JH (hS.ro ho) o27) rfl <| Ja ⟨rfl, Je _⟩, oD, trivial⟩
   intro w30 hT
   have hS := hS.grow hT
   refine JL <| Jf rfl (fun c31 => ?_) (fun c31 => ?_)
   .have hv := hv.1 (oT c31)
    refine Jd 4 <| W.ret <| ⟨_, rfl, Fin.nil ?_⟩
    exact (hS.pick [] rfl).fin rfl ⟨false, rfl, rfl, hv⟩
   have hv := hv.2 (oF c31)
   refine Jj <| JD ?_
   obtain ⟨o32, hv⟩ := hv
   refine WL.add (r := (z14 + 1)) rfl rfl (wr o32) rfl <| Jb 2 ?_
   exact ⟨(z14 + 1), sp rfl, hv.2, rfl, hv.1, hS⟩
  have hv := hv.2 (oF c18)
  refine Jt <| Jd 4 <| W.ret <| ⟨_, rfl, Fin.nil ?_⟩
  exact (hS.pick [] rfl).fin rfl ⟨true, rfl, rfl, hv⟩
def Jfl (Pf : Int) (Mf : Int) (mf : List Int) (Ph : Int) (Mh : Int) (mh : List Int) (Q : Bool -> Prop) : Prop :=
  ((Pf = Ph) -> (((Mf = Mh) -> (Jip mf mh (fun r18 => Q r18))) /\ (¬ (Mf = Mh) -> Q false))) /\ (¬ (Pf = Ph) -> Q false)
theorem Jtx {w : World} {Q : Bool -> Prop} {Pf : Int} {Mf : Int} {mf : List Int} {Ph : Int} {Mh : Int} {mh : List Int} {Bf : Nat} {Af : Option Addr} {nf kf : Nat} (hf : Rd Bf w 1 Af nf kf (is mf)) {Bh : Nat} {Ah : Option Addr} {nh kh : Nat} (hh : Rd Bh w 1 Ah nh kh (is mh)) (hv : Jfl Pf Mf mf Ph Mh mh Q) :
    Calls Try.prog 26 #[.agg #[.int .i64 Pf, .int .i64 Mf, .slice Af nf kf], .agg #[.int .i64 Ph, .int .i64 Mh, .slice Ah nh kh]] w <| Rt w fun v Qr => ∃ (r0 : Bool), v = .bool r0 /\ Qr = [] /\ Q r0 := by
  have hnf := hf.ilen
  subst hnf
  have hnh := hh.ilen
  subst hnh
  refine Ji <| Jh (vs := [.agg #[nI Pf, nI Mf, nS Af mf kf], .agg #[nI Ph, nI Mh, nS Ah mh kh]]) [4] XF26 rfl rfl rfl rfl ?_
  have hS := Jp w
  unfold Jfl at hv
  refine Jd 2 <| JA (z := 3) (cs := [nI Pf, nI Mf, nS Af mf kf]) hS rfl rfl rfl rfl ?_
  intro g11 w12 hS
  refine JA (z := 3) (cs := [nI Ph, nI Mh, nS Ah mh kh]) hS rfl rfl rfl rfl ?_
  intro g13 w14 hS
  refine Jb 2 <| Jd 2 <| Jc (off := 0) JU rfl rfl <| Jl 1 0 XU3 hS rfl rfl rfl ⟨rfl, rfl⟩ <| Jc (off := 0) JU rfl rfl <| Jl 0 0 XU3 hS rfl rfl rfl ⟨rfl, rfl⟩ <| Jd7 rfl rfl rfl <| Jo rfl rfl ?_
  by_cases g15 : Pf = Ph
  .have hv := hv.1 g15
   rw [decide_eq_true g15]
   refine WL.take rfl <| Jc (off := 1) J7 rfl rfl <| WL.take rfl <| Jl 1 1 XU3 hS rfl rfl rfl ⟨rfl, rfl⟩ <| WL.take rfl <| Jc (off := 1) J7 rfl rfl <| WL.take rfl <| Jl 0 1 XU3 hS rfl rfl rfl ⟨rfl, rfl⟩ <| Jb 3 <| Jo rfl rfl ?_
   by_cases g16 : Mf = Mh
   .have hv := hv.1 g16
    rw [decide_eq_true g16]
    refine WL.take rfl <| Jc (off := 2) Qk rfl rfl <| WL.take rfl <| Jl 1 2 Jn hS rfl rfl rfl ⟨rfl, rfl⟩ <| WL.take rfl <| Jc (off := 2) Qk rfl rfl <| WL.take rfl <| Jl 0 2 Jn hS rfl rfl rfl ⟨rfl, rfl⟩ <| WL.take rfl <| SL.call hS (Jrb (hS.ro hf) (hS.ro hh) hv) XF44 rfl XN44 rfl rfl ?_
    rintro _ _ w17 ⟨r18, rfl, rfl, hv⟩ hGw17 hS
    have hS := hS.n0
    refine Jb 3 <| W.ret <| ⟨_, rfl, Fin.nil ?_⟩
    exact (hS.pick [] rfl).fin rfl ⟨r18, rfl, rfl, hv⟩
   have hv := hv.2 g16
   rw [decide_eq_false g16]
   refine Jb 8 <| W.ret <| ⟨_, rfl, Fin.nil ?_⟩
   exact (hS.pick [] rfl).fin rfl ⟨false, rfl, rfl, hv⟩
  have hv := hv.2 g15
  rw [decide_eq_false g15]
  refine Jb 15 <| W.ret <| ⟨_, rfl, Fin.nil ?_⟩
  exact (hS.pick [] rfl).fin rfl ⟨false, rfl, rfl, hv⟩
def Jea (Fg : GFv) (u : List Int) (y : List Int) (Q : List Int -> Prop) : Prop :=
  ∃ (I26 : List Int -> Int -> Prop) (μ27 : List Int -> Int -> Nat), I26 ([] : List Int) (0 : Int) /\ ∀ (x21 : List Int) (z25 : Int), (I26 x21 z25 -> (((z25 < (u.length : Int)) -> ((0 <= z25 /\ z25 < (u.length : Nat)) /\ (Y9 Fg (gi u z25) y (fun x32 => (((x21.length : Nat) + (x32.length : Nat) : Int) * 8 <= 140737488355328) /\ ((I64 (z25 + 1)) /\ (I26 (x21 ++ x32) (z25 + 1) /\ μ27 (x21 ++ x32) (z25 + 1) < μ27 x21 z25)))))) /\ (¬ (z25 < (u.length : Int)) -> Q x21)))
theorem Jrc {w : World} {Q : List Int -> Prop} {Fg : GFv} {u : List Int} {y : List Int} {ag : Addr} {Bg : Nat} (hgg : GFR Bg w ag Fg) {Bu : Nat} {Au : Option Addr} {nu ku : Nat} (hu : Rd Bu w 1 Au nu ku (is u)) {By : Nat} {Ay : Option Addr} {ny ky : Nat} (hy : Rd By w 1 Ay ny ky (is y)) (hv : Jea Fg u y Q) :
    Calls Try.prog 31 #[.pointer (some ag), .slice Au nu ku, .slice Ay ny ky] w <| Rt w fun v Qr => ∃ (x : List Int)  (A : Option Addr) (c : Nat), v = .slice A x.length c /\ Qr = [.row 3 1 A x.length c (is x)] /\ Q x := by
  have hgg_ := hgg
  obtain ⟨Ag_mod, kg_mod, Ag_exp, kg_exp, Ag_log, kg_log, Ag_above, kg_above, hg_c, hg_mod, hg_exp, hg_log, hg_above⟩ := hgg_
  have hnu := hu.ilen
  subst hnu
  have hny := hy.ilen
  subst hny
  refine Ji <| Jh (vs := [.pointer (some ag), nS Au u ku, nS Ay y ky]) [6] XF31 rfl rfl rfl rfl ?_
  have hS := Jp w
  unfold Jea at hv
  refine Jd 12 <| WL.len Jn rfl rfl <| Jb 2 <| W.block ?_
  obtain ⟨I26, μ27, hv, hk41⟩ := hv
  have hS := hS.nil (e := 3) (z := 1)
  have hm0 : 0 = ([] : List Int).length := (hS.rd (i := 0) rfl).ilen.symm
  have hS := hS.relen (i := 0) rfl hm0
  change St _ _ _ _ [_] at hS
  refine Jz (σ := List Int × Int × Option Addr × Nat) (fun q w1 => match q with | (x21, z25, A22, k23) => I26 x21 z25 /\ St TT w none w1 [nR 3 A22 x21 k23]) (fun (x21, z25, A22, k23) => [(0, .pointer (some ag)), (2, nS Ay y ky), (6, .slice none 0 0), (7, nS A22 x21 k23), (10, nS Au u ku), (11, nI (u.length : Int)), (12, nI z25)]) (fun (x21, z25, A22, k23) => μ27 x21 z25) (([] : List Int), (0 : Int), none, 0) ⟨hv, hS⟩ ⟨rfl, rfl, rfl, (sm (by first | rfl | assumption | omega)), rfl, rfl, rfl, trivial⟩ ?_
  rintro ⟨x21, z25, A22, k23⟩ w28 ⟨hv, hS⟩
  have hv := hk41 x21 z25 hv
  refine Jd 5 <| Jf rfl (fun c29 => ?_) (fun c29 => ?_)
  .have hv := hv.1 (oT c29)
   refine Jj <| Jv <| W.block <| Jd 2 ?_
   obtain ⟨o30, hv⟩ := hv
   refine Jg Jn XE3 (hS.ro hu) rfl rfl o30 rfl <| Jk XU3 rfl rfl (JH (hS.ro hu) o30) rfl <| Jb 2 <| Jd 5 <| SL.call hS (Je1 (GFR.ext (GFR.norm hgg) hS.ext) (hS.ro hy) hv) XF52 rfl XN52 rfl rfl ?_
   rintro _ _ w31 ⟨x32, A33, k34, rfl, rfl, hv⟩ hGw31 hS
   have hS := hS.n1
   obtain ⟨o36, hv⟩ := hv
   refine SL.append (cs := is x21) (cs' := is x32) 1 ((x21 ++ x32).length) (is (x21 ++ x32)) hS rfl Jn XE3 (hS.rd (i := 0) rfl) (Qj _) rfl rfl (apk o36).1 (apk o36).2 (ZN (hS.rd (i := 1) rfl) (hS.rd (i := 0) rfl)) (Qh _ _) rfl ?_
   intro A37 k38 w39 hS
   refine Jb 2 <| JD ?_
   obtain ⟨o40, hv⟩ := hv
   refine WL.add (r := (z25 + 1)) rfl rfl (wr o40) rfl <| Jb 2 ?_
   have hS := hS.pick [1] rfl
   exact ⟨(x21 ++ x32, (z25 + 1), A37, k38), sp rfl, hv.2, rfl, hv.1, hS⟩
  have hv := hv.2 (oF c29)
  refine Jt <| Jd 5 <| W.ret <| ⟨_, rfl, Fin.nil ?_⟩
  exact (hS.pick [0] rfl).fin rfl ⟨x21, A22, k23, rfl, rfl, hv⟩
end Go.Proofs.Ytgjloioccgcceaa
set_option linter.unusedSimpArgs false
set_option linter.unusedVariables false
set_option maxRecDepth 4000
set_option maxHeartbeats 4000000
namespace Go.Proofs.Ytgjloioccgcceaa
open Go.RowKit
def Jar (Pa : Int) (Ma : Int) (ma : List Int) (Na : Int) (a : List (List Int)) (Pb : Int) (Mb : Int) (mb : List Int) (Nb : Int) (b : List (List Int)) (Q : Int × Int × List Int × Int × List (List Int) × Int -> Prop) : Prop :=
  YR ([(Pa, Ma, ma, Na, a), (Pb, Mb, mb, Nb, b)] : List Ct) (fun r21 => ((r21 ≠ 0) -> (Q ((0 : Int), (0 : Int), ([] : List Int), (0 : Int), ([] : List (List Int)), r21))) /\ (¬ (r21 ≠ 0) -> (Jfl Pa Ma ma Pb Mb mb (fun r26 => (((!r26) = true) -> (Q ((0 : Int), (0 : Int), ([] : List Int), (0 : Int), ([] : List (List Int)), (10 : Int)))) /\ ((!r26) = false -> ((I64 (Na * Nb)) /\ ((((64 : Int) < (Na * Nb)) -> (Q ((0 : Int), (0 : Int), ([] : List Int), (0 : Int), ([] : List (List Int)), (4 : Int)))) /\ (¬ ((64 : Int) < (Na * Nb)) -> (Jkm Pa Ma ma (fun q => match q with | (none, r36) => ((r36 ≠ 0) -> (Q ((0 : Int), (0 : Int), ([] : List Int), (0 : Int), ([] : List (List Int)), r36))) /\ (¬ (r36 ≠ 0) -> (∃ (I49 : Int -> Prop) (μ50 : Int -> Nat), I49 0 /\ ∀ (z48 : Int), (I49 z48 -> (((z48 < (a.length : Int)) -> ((0 <= z48 /\ z48 < (a.length : Nat)) /\ (∃ (I54 : Prop) (μ55 : Nat), I54 /\ (I54 -> ((((0 : Int) < (b.length : Int)) -> ((0 <= (0 : Int) /\ (0 : Int) < (b.length : Nat)) /\ False)) /\ (¬ ((0 : Int) < (b.length : Int)) -> ((I64 (z48 + 1)) /\ (I49 (z48 + 1) /\ μ50 (z48 + 1) < μ50 z48)))))))) /\ (¬ (z48 < (a.length : Int)) -> ((I64 (Na * Nb)) /\ (Q2 Pa Ma ma (Na * Nb) ([] : List (List Int)) (fun (r63, r64, x65, c66, x67, r68) => Q (r63, r64, x65, c66, x67, r68))))))))) | (some F37, r36) => ((r36 ≠ 0) -> (Q ((0 : Int), (0 : Int), ([] : List Int), (0 : Int), ([] : List (List Int)), r36))) /\ (¬ (r36 ≠ 0) -> (∃ (I99 : List (List Int) -> Int -> Prop) (μ100 : List (List Int) -> Int -> Nat), I99 ([] : List (List Int)) (0 : Int) /\ ∀ (x93 : List (List Int)) (z98 : Int), (I99 x93 z98 -> (((z98 < (a.length : Int)) -> ((0 <= z98 /\ z98 < (a.length : Nat)) /\ (∃ (I119 : List (List Int) -> Int -> Prop) (μ120 : List (List Int) -> Int -> Nat), I119 x93 (0 : Int) /\ ∀ (x114 : List (List Int)) (z118 : Int), (I119 x114 z118 -> (((z118 < (b.length : Int)) -> ((0 <= z118 /\ z118 < (b.length : Nat)) /\ (Jea F37 (gl a z98) (gl b z118) (fun x125 => (((x114.length : Nat) + (1 : Nat) : Int) * 24 <= 140737488355328) /\ ((I64 (z118 + 1)) /\ (I119 (x114 ++ [x125]) (z118 + 1) /\ μ120 (x114 ++ [x125]) (z118 + 1) < μ120 x114 z118)))))) /\ (¬ (z118 < (b.length : Int)) -> ((I64 (z98 + 1)) /\ (I99 x114 (z98 + 1) /\ μ100 x114 (z98 + 1) < μ100 x93 z98)))))))) /\ (¬ (z98 < (a.length : Int)) -> ((I64 (Na * Nb)) /\ (Q2 Pa Ma ma (Na * Nb) x93 (fun (r141, r142, x143, c144, x145, r146) => Q (r141, r142, x143, c144, x145, r146)))))))))))))))))))
theorem Jlk {w : World} {Q : Int × Int × List Int × Int × List (List Int) × Int -> Prop} {Pa : Int} {Ma : Int} {ma : List Int} {Na : Int} {a : List (List Int)} {Pb : Int} {Mb : Int} {mb : List Int} {Nb : Int} {b : List (List Int)} {Baf : Nat} {Aaf : Option Addr} {naf kaf : Nat} (haf : Rd Baf w 1 Aaf naf kaf (is ma)) {Aa : Option Addr} {na ka : Nat} (ha : Rl w Aa na ka a) {Bbf : Nat} {Abf : Option Addr} {nbf kbf : Nat} (hbf : Rd Bbf w 1 Abf nbf kbf (is mb)) {Ab : Option Addr} {nb kb : Nat} (hb : Rl w Ab nb kb b) (hv : Jar Pa Ma ma Na a Pb Mb mb Nb b Q) :
    Calls Try.prog 12 #[.agg #[.int .i64 Pa, .int .i64 Ma, .slice Aaf naf kaf, .int .i64 Na, .slice Aa na ka], .agg #[.int .i64 Pb, .int .i64 Mb, .slice Abf nbf kbf, .int .i64 Nb, .slice Ab nb kb]] w <| Rt w fun v Qr => ∃ (p0 : Int) (m0 : Int) (f0 : List Int) (c0 : Int) (r0 : List (List Int)) (r1 : Int) (A0f : Option Addr) (k0f : Nat) (A0 : Option Addr) (k0 : Nat) (hs0 : Hs), v = .tuple #[.agg #[.int .i64 p0, .int .i64 m0, .slice A0f f0.length k0f, .int .i64 c0, .slice A0 r0.length k0], .int .i64 r1] /\ Qr = [.row 3 1 A0f f0.length k0f (is f0), mx 22 3 A0 r0.length k0 hs0 r0] /\ Q (p0, m0, f0, c0, r0, r1) := by
  have hnaf := haf.ilen
  subst hnaf
  have hna := ha.len
  subst hna
  obtain ⟨hsa, hHa⟩ := ha.heads
  have hnbf := hbf.ilen
  subst hnbf
  have hnb := hb.len
  subst hnb
  obtain ⟨hsb, hHb⟩ := hb.heads
  refine Ji <| J8 (vs := [.agg #[nI Pa, nI Ma, nS Aaf ma kaf, nI Na, nS Aa a ka], .agg #[nI Pb, nI Mb, nS Abf mb kbf, nI Nb, nS Ab b kb]]) [.cell 4 27, .tmp 5] XF12 rfl rfl rfl rfl ?_
  have hS := Jp w
  unfold Jar at hv
  refine Jd 2 <| JA (z := 5) (cs := [nI Pa, nI Ma, nS Aaf ma kaf, nI Na, nS Aa a ka]) hS rfl rfl rfl rfl ?_
  intro g11 w12 hS
  refine JA (z := 5) (cs := [nI Pb, nI Mb, nS Abf mb kbf, nI Nb, nS Ab b kb]) hS rfl rfl rfl rfl ?_
  intro g13 w14 hS
  refine SL.alloc (cs := [nI 0, nI 0, .slice none 0 0, nI 0, .slice none 0 0]) hS JJ rfl rfl ?_
  intro g15 w16 hS
  refine Jb 2 <| Jd 3 <| JC 2 JJ Qf hS rfl ⟨rfl, rfl⟩ rfl <| JC 1 JJ Qf hS rfl ⟨rfl, rfl⟩ rfl <| Jat (cells := [nI Pa, nI Ma, nS Aaf ma kaf, nI Na, nS Aa a ka, nI Pb, nI Mb, nS Abf mb kbf, nI Nb, nS Ab b kb]) hS Jih JJ rfl ⟨_, rfl, by kernel_rfl⟩ rfl rfl ?_
  intro A17 w18 hS
  refine SL.call hS (Jgd (Rc.two (a := (Pa, Ma, ma, Na, a)) (b := (Pb, Mb, mb, Nb, b)) (Ha := ((Aaf, kaf), (Aa, ka), hsa)) (Hb := ((Abf, kbf), (Ab, kb), hsb)) (hS.rd (i := 0) rfl) ⟨⟨_, (Jav (hS.ro haf))⟩, (RlH.ext hHa hS.ext)⟩ ⟨⟨_, (Jav (hS.ro hbf))⟩, (RlH.ext hHb hS.ext)⟩) hv) XF25 rfl XN25 rfl rfl ?_
  rintro _ _ w20 ⟨r21, rfl, rfl, hv⟩ hGw20 hS
  have hS := hS.n0
  refine Jb 2 <| Jd 5 <| Jf rfl (fun c22 => ?_) (fun c22 => ?_)
  .have hv := hv.1 (oT c22)
   refine Jd 2 <| JQ (cells := #[nI 0, nI 0, .slice none 0 0, nI 0, .slice none 0 0]) Jaz rfl rfl rfl <| Jo rfl rfl <| Jw (cs := [nI 0, nI 0, .slice none 0 0, nI 0, .slice none 0 0]) 1 hS rfl JJ rfl rfl rfl rfl rfl ?_
   intro w23 hS
   refine Jb 2 <| W.ret ?_
   have hS := hS.nil (e := 3) (z := 1)
   have hS := hS.mxNil 22 3
   have hm4 := hS.mxlen (i := 0) rfl
   have hS := hS.relenMx (i := 0) rfl hm4.symm
   change St _ _ _ _ [_, _, _, _, _, _] at hS
   repeat with_reducible first | refine blk.ret ?_ | refine exits.retI ?_
   refine endC.mk ⟨[.agg #[nI 0, nI 0, .slice none 0 0, nI 0, .slice none 0 0], nI r21], ⟨_, _, _, rfl, rfl, JB (cs := [nI 0, nI 0, .slice none 0 0, nI 0, .slice none 0 0]) JJ Qf rfl (Ju (hS.own (i := 3) rfl)), ⟨_, _, rfl, rfl, rfl⟩⟩, ?_⟩
   exact ⟨_, hS.ext, (hS.pick [1, 0] rfl).rows, J4 (hS.pick [1, 0] rfl).rows rfl, ⟨(0 : Int), (0 : Int), ([] : List Int), (0 : Int), ([] : List (List Int)), r21, none, 0, none, 0, (fun _ => (none, 0)), (by (try unfold nS); first | (rw [show (Value.slice none 0 0) = Value.slice none (([] : List (List Int))).length 0 from sm0 hm4.symm]; done) | (rw [show (Value.slice none 0 0) = Value.slice none (([] : List (List Int))).length 0 from sm0 hm4.symm]; rfl)), rfl, hv⟩⟩
  have hv := hv.2 (oF c22)
  refine Jj <| Jd 3 <| Jc (off := 0) QI rfl rfl <| J0 (cs := [nI Pa, nI Ma, nS Aaf ma kaf]) JW JY rfl rfl (QR (hS.rd (i := 3) rfl) 0 rfl) rfl <| Jc (off := 0) QI rfl rfl <| J0 (cs := [nI Pb, nI Mb, nS Abf mb kbf]) JW JY rfl rfl (QR (hS.rd (i := 2) rfl) 0 rfl) rfl <| SL.call hS (Jtx (hS.ro haf) (hS.ro hbf) hv) XF26 rfl XN26 rfl rfl ?_
  rintro _ _ w25 ⟨r26, rfl, rfl, hv⟩ hGw25 hS
  have hS := hS.n0
  refine Jb 2 <| Jf rfl (fun c27 => ?_) (fun c27 => ?_)
  .have hv := hv.1 (c27)
   refine Jd 2 <| JQ (cells := #[nI 0, nI 0, .slice none 0 0, nI 0, .slice none 0 0]) Jaz rfl rfl rfl <| Jw (cs := [nI 0, nI 0, .slice none 0 0, nI 0, .slice none 0 0]) 1 hS rfl JJ rfl rfl rfl rfl rfl ?_
   intro w28 hS
   refine Jb 2 <| W.ret ?_
   have hS := hS.nil (e := 3) (z := 1)
   have hS := hS.mxNil 22 3
   have hm4 := hS.mxlen (i := 0) rfl
   have hS := hS.relenMx (i := 0) rfl hm4.symm
   change St _ _ _ _ [_, _, _, _, _, _] at hS
   repeat with_reducible first | refine blk.ret ?_ | refine exits.retI ?_
   refine endC.mk ⟨[.agg #[nI 0, nI 0, .slice none 0 0, nI 0, .slice none 0 0], nI 10], ⟨_, _, _, rfl, rfl, JB (cs := [nI 0, nI 0, .slice none 0 0, nI 0, .slice none 0 0]) JJ Qf rfl (Ju (hS.own (i := 3) rfl)), ⟨_, _, rfl, rfl, rfl⟩⟩, ?_⟩
   exact ⟨_, hS.ext, (hS.pick [1, 0] rfl).rows, J4 (hS.pick [1, 0] rfl).rows rfl, ⟨(0 : Int), (0 : Int), ([] : List Int), (0 : Int), ([] : List (List Int)), (10 : Int), none, 0, none, 0, (fun _ => (none, 0)), (by (try unfold nS); first | (rw [show (Value.slice none 0 0) = Value.slice none (([] : List (List Int))).length 0 from sm0 hm4.symm]; done) | (rw [show (Value.slice none 0 0) = Value.slice none (([] : List (List Int))).length 0 from sm0 hm4.symm]; rfl)), rfl, hv⟩⟩
  have hv := hv.2 (c27)
  refine Jj <| Jd 3 <| Jc (off := 3) Qm rfl rfl <| Jl 3 3 XU3 hS rfl rfl rfl ⟨rfl, rfl⟩ <| Jc (off := 3) Qm rfl rfl <| Jl 2 3 XU3 hS rfl rfl rfl ⟨rfl, rfl⟩ ?_
  obtain ⟨o30, hv⟩ := hv
  refine WL.mul (r := (Na * Nb)) rfl rfl (wr o30) rfl <| Jb 2 <| Jf rfl (fun c31 => ?_) (fun c31 => ?_)
  .have hv := hv.1 (oT c31)
   refine Jd 2 <| JQ (cells := #[nI 0, nI 0, .slice none 0 0, nI 0, .slice none 0 0]) Jaz rfl rfl rfl <| Jw (cs := [nI 0, nI 0, .slice none 0 0, nI 0, .slice none 0 0]) 1 hS rfl JJ rfl rfl rfl rfl rfl ?_
   intro w32 hS
   refine Jb 2 <| W.ret ?_
   have hS := hS.nil (e := 3) (z := 1)
   have hS := hS.mxNil 22 3
   have hm4 := hS.mxlen (i := 0) rfl
   have hS := hS.relenMx (i := 0) rfl hm4.symm
   change St _ _ _ _ [_, _, _, _, _, _] at hS
   repeat with_reducible first | refine blk.ret ?_ | refine exits.retI ?_
   refine endC.mk ⟨[.agg #[nI 0, nI 0, .slice none 0 0, nI 0, .slice none 0 0], nI 4], ⟨_, _, _, rfl, rfl, JB (cs := [nI 0, nI 0, .slice none 0 0, nI 0, .slice none 0 0]) JJ Qf rfl (Ju (hS.own (i := 3) rfl)), ⟨_, _, rfl, rfl, rfl⟩⟩, ?_⟩
   exact ⟨_, hS.ext, (hS.pick [1, 0] rfl).rows, J4 (hS.pick [1, 0] rfl).rows rfl, ⟨(0 : Int), (0 : Int), ([] : List Int), (0 : Int), ([] : List (List Int)), (4 : Int), none, 0, none, 0, (fun _ => (none, 0)), (by (try unfold nS); first | (rw [show (Value.slice none 0 0) = Value.slice none (([] : List (List Int))).length 0 from sm0 hm4.symm]; done) | (rw [show (Value.slice none 0 0) = Value.slice none (([] : List (List Int))).length 0 from sm0 hm4.symm]; rfl)), rfl, hv⟩⟩
  have hv := hv.2 (oF c31)
  refine Jj <| Jd 2 <| Jc (off := 0) QI rfl rfl <| J0 (cs := [nI Pa, nI Ma, nS Aaf ma kaf]) JW JY rfl rfl (QR (hS.rd (i := 3) rfl) 0 rfl) rfl <| SL.call hS (Jrd (hS.ro haf) hv) XF30 rfl XN30 rfl rfl ?_
  rintro _ _ w35 ⟨o, r36, hv, hK⟩ hGw35 hS
  cases o with
  | none =>
    obtain ⟨rfl, rfl⟩ := hK
    change St _ _ _ _ [_, _, _, _] at hS
    refine Jb 6 <| Jd 6 <| Jf rfl (fun c43 => ?_) (fun c43 => ?_)
    .have hv := hv.1 (oT c43)
     refine Jd 2 <| JQ (cells := #[nI 0, nI 0, .slice none 0 0, nI 0, .slice none 0 0]) Jaz rfl rfl rfl <| Jo rfl rfl <| Jw (cs := [nI 0, nI 0, .slice none 0 0, nI 0, .slice none 0 0]) 1 hS rfl JJ rfl rfl rfl rfl rfl ?_
     intro w44 hS
     refine Jb 2 <| W.ret ?_
     have hS := hS.nil (e := 3) (z := 1)
     have hS := hS.mxNil 22 3
     have hm4 := hS.mxlen (i := 0) rfl
     have hS := hS.relenMx (i := 0) rfl hm4.symm
     change St _ _ _ _ [_, _, _, _, _, _] at hS
     repeat with_reducible first | refine blk.ret ?_ | refine exits.retI ?_
     refine endC.mk ⟨[.agg #[nI 0, nI 0, .slice none 0 0, nI 0, .slice none 0 0], nI r36], ⟨_, _, _, rfl, rfl, JB (cs := [nI 0, nI 0, .slice none 0 0, nI 0, .slice none 0 0]) JJ Qf rfl (Ju (hS.own (i := 3) rfl)), ⟨_, _, rfl, rfl, rfl⟩⟩, ?_⟩
     exact ⟨_, hS.ext, (hS.pick [1, 0] rfl).rows, J4 (hS.pick [1, 0] rfl).rows rfl, ⟨(0 : Int), (0 : Int), ([] : List Int), (0 : Int), ([] : List (List Int)), r36, none, 0, none, 0, (fun _ => (none, 0)), (by (try unfold nS); first | (rw [show (Value.slice none 0 0) = Value.slice none (([] : List (List Int))).length 0 from sm0 hm4.symm]; done) | (rw [show (Value.slice none 0 0) = Value.slice none (([] : List (List Int))).length 0 from sm0 hm4.symm]; rfl)), rfl, hv⟩⟩
    have hv := hv.2 (oF c43)
    refine Jj <| Jd 7 <| Jc (off := 4) QH rfl rfl <| Jl 3 4 Jr hS rfl rfl rfl ⟨rfl, rfl⟩ <| WL.len Jr rfl rfl <| Jb 2 <| W.block ?_
    obtain ⟨I49, μ50, hv, hk77⟩ := hv
    refine Jz (σ := Int) (fun z48 w1 => I49 z48 /\ St TT w none w1 [.row 27 5 A17 2 2 [nI Pa, nI Ma, nS Aaf ma kaf, nI Na, nS Aa a ka, nI Pb, nI Mb, nS Abf mb kbf, nI Nb, nS Ab b kb], .row 27 5 (nA g15) 1 1 [nI 0, nI 0, .slice none 0 0, nI 0, .slice none 0 0], .row 27 5 (nA g13) 1 1 [nI Pb, nI Mb, nS Abf mb kbf, nI Nb, nS Ab b kb], .row 27 5 (nA g11) 1 1 [nI Pa, nI Ma, nS Aaf ma kaf, nI Na, nS Aa a ka]]) (fun z48 => [(2, nP g11), (3, nP g13), (4, nP g15), (5, nI 0), (7, .pointer none), (9, .slice none 0 0), (47, nS Aa a ka), (48, nI (a.length : Int)), (49, nI z48)]) (fun z48 => μ50 z48) (0 : Int) ⟨hv, hS⟩ ⟨rfl, rfl, rfl, rfl, rfl, rfl, rfl, rfl, rfl, trivial⟩ ?_
    rintro z48 w51 ⟨hv, hS⟩
    have hv := hk77 z48 hv
    refine Jd 5 <| Jf rfl (fun c52 => ?_) (fun c52 => ?_)
    .have hv := hv.1 (oT c52)
     refine Jj <| Jv <| W.block <| Jd 2 ?_
     obtain ⟨o53, hv⟩ := hv
     refine JT Jr Js hHa rfl rfl o53 rfl <| Jk Jn rfl rfl (hS.cell (RlH.cell hHa o53)) rfl <| Jb 2 <| Jd 2 <| Jc (off := 4) QH rfl rfl <| Jl 2 4 Jr hS rfl rfl rfl ⟨rfl, rfl⟩ <| WL.len Jr rfl rfl <| Jb 2 <| W.block ?_
     obtain ⟨I54, μ55, hv, hk60⟩ := hv
     refine Jz (σ := Unit) (fun _ w1 => I54 /\ St TT w none w1 [.row 27 5 A17 2 2 [nI Pa, nI Ma, nS Aaf ma kaf, nI Na, nS Aa a ka, nI Pb, nI Mb, nS Abf mb kbf, nI Nb, nS Ab b kb], .row 27 5 (nA g15) 1 1 [nI 0, nI 0, .slice none 0 0, nI 0, .slice none 0 0], .row 27 5 (nA g13) 1 1 [nI Pb, nI Mb, nS Abf mb kbf, nI Nb, nS Ab b kb], .row 27 5 (nA g11) 1 1 [nI Pa, nI Ma, nS Aaf ma kaf, nI Na, nS Aa a ka]]) (fun _ => [(2, nP g11), (3, nP g13), (4, nP g15), (5, nI 0), (7, .pointer none), (9, .slice none 0 0), (11, .slice ((hsa z48.toNat).1) ((gl a z48).length) ((hsa z48.toNat).2)), (47, nS Aa a ka), (48, nI (a.length : Int)), (49, nI z48), (50, .bool (decide (z48 < (a.length : Int)))), (54, nS Ab b kb), (55, nI (b.length : Int)), (56, nI 0)]) (fun _ => μ55) () ⟨hv, hS⟩ ⟨rfl, rfl, rfl, rfl, rfl, rfl, rfl, rfl, rfl, rfl, rfl, rfl, rfl, rfl, trivial⟩ ?_
     rintro _ w56 ⟨hv, hS⟩
     have hv := hk60  hv
     refine Jd 5 <| Jf rfl (fun c57 => ?_) (fun c57 => ?_)
     .have hv := hv.1 (oT c57)
      refine Jj <| Jv <| W.block <| Jd 2 ?_
      obtain ⟨o58, hv⟩ := hv
      refine JT Jr Js hHb rfl rfl o58 rfl <| Jk Jn rfl rfl (hS.cell (RlH.cell hHb o58)) rfl <| Jb 2 <| Jd 5 ?_
      exact hv.elim
     have hv := hv.2 (oF c57)
     refine Jt <| JD ?_
     obtain ⟨o59, hv⟩ := hv
     refine WL.add (r := (z48 + 1)) rfl rfl (wr o59) rfl <| Jb 2 ?_
     exact ⟨(z48 + 1), sp rfl, hv.2, rfl, hv.1, hS⟩
    have hv := hv.2 (oF c52)
    refine Jt <| Jd 2 <| Jc (off := 0) QI rfl rfl <| J0 (cs := [nI Pa, nI Ma, nS Aaf ma kaf]) JW JY rfl rfl (QR (hS.rd (i := 3) rfl) 0 rfl) rfl <| Jc (off := 3) Qm rfl rfl <| Jl 3 3 XU3 hS rfl rfl rfl ⟨rfl, rfl⟩ <| Jc (off := 3) Qm rfl rfl <| Jl 2 3 XU3 hS rfl rfl rfl ⟨rfl, rfl⟩ ?_
    obtain ⟨o61, hv⟩ := hv
    refine WL.mul (r := (Na * Nb)) rfl rfl (wr o61) rfl <| Jo rfl rfl <| SL.call hS (Zw (hS.ro haf) (Rl.nil _) hv) XF28 rfl XN28 rfl rfl ?_
    rintro _ _ w62 ⟨r63, r64, x65, c66, x67, r68, A69, k70, A72, k73, hs74, rfl, rfl, hv⟩ hGw62 hS
    have hS := hS.n2
    refine Jb 2 <| Jw (cs := [nI r63, nI r64, nS A69 x65 k70, nI c66, nS A72 x67 k73]) 3 hS rfl JJ rfl rfl rfl rfl rfl ?_
    intro w76 hS
    refine Jb 2 <| W.ret ?_
    have hS := hS.pick [1, 0, 2, 3, 4, 5] rfl
    change St _ _ _ _ [_, _, _, _, _, _] at hS
    repeat with_reducible first | refine blk.ret ?_ | refine exits.retI ?_
    refine endC.mk ⟨[.agg #[nI r63, nI r64, nS A69 x65 k70, nI c66, nS A72 x67 k73], nI r68], ⟨_, _, _, rfl, rfl, JB (cs := [nI r63, nI r64, nS A69 x65 k70, nI c66, nS A72 x67 k73]) JJ Qf rfl (Ju (hS.own (i := 3) rfl)), ⟨_, _, rfl, rfl, rfl⟩⟩, ?_⟩
    exact (hS.pick [1, 0] rfl).fin rfl ⟨r63, r64, x65, c66, x67, r68, A69, k70, A72, k73, hs74, rfl, rfl, hv⟩
  | some F37 =>
    obtain ⟨ad38, lo39, hi40, rfl, rfl⟩ := hK
    change St _ _ _ _ [_, _, _, _, _] at hS
    refine Jb 6 <| Jd 6 <| Jf rfl (fun c78 => ?_) (fun c78 => ?_)
    .have hv := hv.1 (oT c78)
     refine Jd 2 <| JQ (cells := #[nI 0, nI 0, .slice none 0 0, nI 0, .slice none 0 0]) Jaz rfl rfl rfl <| Jo rfl rfl <| Jw (cs := [nI 0, nI 0, .slice none 0 0, nI 0, .slice none 0 0]) 2 hS rfl JJ rfl rfl rfl rfl rfl ?_
     intro w79 hS
     refine Jb 2 <| W.ret ?_
     have hS := hS.nil (e := 3) (z := 1)
     have hS := hS.mxNil 22 3
     have hm4 := hS.mxlen (i := 0) rfl
     have hS := hS.relenMx (i := 0) rfl hm4.symm
     change St _ _ _ _ [_, _, _, _, _, _, _] at hS
     repeat with_reducible first | refine blk.ret ?_ | refine exits.retI ?_
     refine endC.mk ⟨[.agg #[nI 0, nI 0, .slice none 0 0, nI 0, .slice none 0 0], nI r36], ⟨_, _, _, rfl, rfl, JB (cs := [nI 0, nI 0, .slice none 0 0, nI 0, .slice none 0 0]) JJ Qf rfl (Ju (hS.own (i := 4) rfl)), ⟨_, _, rfl, rfl, rfl⟩⟩, ?_⟩
     exact ⟨_, hS.ext, (hS.pick [1, 0] rfl).rows, J4 (hS.pick [1, 0] rfl).rows rfl, ⟨(0 : Int), (0 : Int), ([] : List Int), (0 : Int), ([] : List (List Int)), r36, none, 0, none, 0, (fun _ => (none, 0)), (by (try unfold nS); first | (rw [show (Value.slice none 0 0) = Value.slice none (([] : List (List Int))).length 0 from sm0 hm4.symm]; done) | (rw [show (Value.slice none 0 0) = Value.slice none (([] : List (List Int))).length 0 from sm0 hm4.symm]; rfl)), rfl, hv⟩⟩
    have hv := hv.2 (oF c78)
    refine Jj <| Jd 7 <| Jc (off := 4) QH rfl rfl <| Jl 4 4 Jr hS rfl rfl rfl ⟨rfl, rfl⟩ <| WL.len Jr rfl rfl <| Jb 2 <| W.block ?_
    obtain ⟨I99, μ100, hv, hk155⟩ := hv
    have hS := hS.mxNil 22 3
    have hm0 : 0 = ([] : List (List Int)).length := (hS.mxlen (i := 0) rfl).symm
    have hS := hS.relenMx (i := 0) rfl hm0
    change St _ _ _ _ [_, _, _, _, _, _] at hS
    refine Jz (σ := List (List Int) × Int × Option Addr × Nat × Hs) (fun q w1 => match q with | (x93, z98, A94, k95, hs96) => I99 x93 z98 /\ St TT w none w1 [mx 22 3 A94 x93.length k95 hs96 x93, .ch lo39 hi40 (fun wz => GFX lo39 hi40 wz ad38 F37), .row 27 5 A17 2 2 [nI Pa, nI Ma, nS Aaf ma kaf, nI Na, nS Aa a ka, nI Pb, nI Mb, nS Abf mb kbf, nI Nb, nS Ab b kb], .row 27 5 (nA g15) 1 1 [nI 0, nI 0, .slice none 0 0, nI 0, .slice none 0 0], .row 27 5 (nA g13) 1 1 [nI Pb, nI Mb, nS Abf mb kbf, nI Nb, nS Ab b kb], .row 27 5 (nA g11) 1 1 [nI Pa, nI Ma, nS Aaf ma kaf, nI Na, nS Aa a ka]]) (fun (x93, z98, A94, k95, hs96) => [(2, nP g11), (3, nP g13), (4, nP g15), (5, nI 0), (7, .pointer (some ad38)), (9, nS A94 x93 k95), (47, nS Aa a ka), (48, nI (a.length : Int)), (49, nI z98)]) (fun (x93, z98, A94, k95, hs96) => μ100 x93 z98) (([] : List (List Int)), (0 : Int), none, 0, (fun _ => (none, 0))) ⟨hv, hS⟩ ⟨rfl, rfl, rfl, rfl, rfl, (sm (by first | rfl | assumption | omega)), rfl, rfl, rfl, trivial⟩ ?_
    rintro ⟨x93, z98, A94, k95, hs96⟩ w101 ⟨hv, hS⟩
    have hv := hk155 x93 z98 hv
    refine Jd 5 <| Jf rfl (fun c102 => ?_) (fun c102 => ?_)
    .have hv := hv.1 (oT c102)
     refine Jj <| Jv <| W.block <| Jd 2 ?_
     obtain ⟨o103, hv⟩ := hv
     refine JT Jr Js hHa rfl rfl o103 rfl <| Jk Jn rfl rfl (hS.cell (RlH.cell hHa o103)) rfl <| Jb 2 <| Jd 2 <| Jc (off := 4) QH rfl rfl <| Jl 4 4 Jr hS rfl rfl rfl ⟨rfl, rfl⟩ <| WL.len Jr rfl rfl <| Jb 2 <| W.block ?_
     obtain ⟨I119, μ120, hv, hk138⟩ := hv
     refine Jz (σ := List (List Int) × Int × Option Addr × Nat × Hs) (fun q w1 => match q with | (x114, z118, A115, k116, hs117) => I119 x114 z118 /\ St TT w none w1 [mx 22 3 A115 x114.length k116 hs117 x114, .ch lo39 hi40 (fun wz => GFX lo39 hi40 wz ad38 F37), .row 27 5 A17 2 2 [nI Pa, nI Ma, nS Aaf ma kaf, nI Na, nS Aa a ka, nI Pb, nI Mb, nS Abf mb kbf, nI Nb, nS Ab b kb], .row 27 5 (nA g15) 1 1 [nI 0, nI 0, .slice none 0 0, nI 0, .slice none 0 0], .row 27 5 (nA g13) 1 1 [nI Pb, nI Mb, nS Abf mb kbf, nI Nb, nS Ab b kb], .row 27 5 (nA g11) 1 1 [nI Pa, nI Ma, nS Aaf ma kaf, nI Na, nS Aa a ka]]) (fun (x114, z118, A115, k116, hs117) => [(2, nP g11), (3, nP g13), (4, nP g15), (5, nI 0), (7, .pointer (some ad38)), (9, nS A115 x114 k116), (11, .slice ((hsa z98.toNat).1) ((gl a z98).length) ((hsa z98.toNat).2)), (47, nS Aa a ka), (48, nI (a.length : Int)), (49, nI z98), (50, .bool (decide (z98 < (a.length : Int)))), (54, nS Ab b kb), (55, nI (b.length : Int)), (56, nI z118)]) (fun (x114, z118, A115, k116, hs117) => μ120 x114 z118) (x93, (0 : Int), A94, k95, hs96) ⟨hv, hS⟩ ⟨rfl, rfl, rfl, rfl, rfl, rfl, rfl, rfl, rfl, rfl, rfl, rfl, rfl, rfl, trivial⟩ ?_
     rintro ⟨x114, z118, A115, k116, hs117⟩ w121 ⟨hv, hS⟩
     have hv := hk138 x114 z118 hv
     refine Jd 5 <| Jf rfl (fun c122 => ?_) (fun c122 => ?_)
     .have hv := hv.1 (oT c122)
      refine Jj <| Jv <| W.block <| Jd 2 ?_
      obtain ⟨o123, hv⟩ := hv
      refine JT Jr Js hHb rfl rfl o123 rfl <| Jk Jn rfl rfl (hS.cell (RlH.cell hHb o123)) rfl <| Jb 2 <| Jd 5 <| SL.call hS (Jrc (GFX.gfr (hS.chunk (i := 1) rfl)) (hS.ro (Qe hHa o103)) (hS.ro (Qe hHb o123)) hv) XF31 rfl XN31 rfl rfl ?_
      rintro _ _ w124 ⟨x125, A126, k127, rfl, rfl, hv⟩ hGw124 hS
      have hS := hS.n1
      refine Qu (vs := [nS A126 x125 k127]) hS Jr Js rfl rfl rfl rfl (by simp [Value.oneCell']) rfl ?_
      intro A129 w130 hS
      obtain ⟨o132, hv⟩ := hv
      have hS := hS.pick [2, 0, 1, 3, 4, 5, 6, 7] rfl
      have hS := hS.pick [1, 2, 0, 3, 4, 5, 6, 7] rfl
      have hS := YT (hS.rd (i := 1) rfl).ilen.symm hS
      change St _ _ _ _ [_, _, _, _, _, _, _] at hS
      refine QM hS Jr Js rfl rfl (apk o132).1 (apk o132).2 rfl ?_
      intro A133 k134 w135 hS
      refine Jb 2 <| JD ?_
      obtain ⟨o136, hv⟩ := hv
      refine WL.add (r := (z118 + 1)) rfl rfl (wr o136) rfl <| Jb 2 ?_
      exact ⟨(x114 ++ [x125], (z118 + 1), A133, k134, (Z5 x114.length hs117 (fun _ => (A126, k127)))), sp rfl, hv.2, rfl, hv.1, hS⟩
     have hv := hv.2 (oF c122)
     refine Jt <| JD ?_
     obtain ⟨o137, hv⟩ := hv
     refine WL.add (r := (z98 + 1)) rfl rfl (wr o137) rfl <| Jb 2 ?_
     exact ⟨(x114, (z98 + 1), A115, k116, hs117), sp rfl, hv.2, rfl, hv.1, hS⟩
    have hv := hv.2 (oF c102)
    refine Jt <| Jd 2 <| Jc (off := 0) QI rfl rfl <| J0 (cs := [nI Pa, nI Ma, nS Aaf ma kaf]) JW JY rfl rfl (QR (hS.rd (i := 5) rfl) 0 rfl) rfl <| Jc (off := 3) Qm rfl rfl <| Jl 5 3 XU3 hS rfl rfl rfl ⟨rfl, rfl⟩ <| Jc (off := 3) Qm rfl rfl <| Jl 4 3 XU3 hS rfl rfl rfl ⟨rfl, rfl⟩ ?_
    obtain ⟨o139, hv⟩ := hv
    refine WL.mul (r := (Na * Nb)) rfl rfl (wr o139) rfl <| Jo rfl rfl <| SL.call hS (Zw (hS.ro haf) (hS.rl (i := 0) rfl) hv) XF28 rfl XN28 rfl rfl ?_
    rintro _ _ w140 ⟨r141, r142, x143, c144, x145, r146, A147, k148, A150, k151, hs152, rfl, rfl, hv⟩ hGw140 hS
    have hS := hS.n2
    refine Jb 2 <| Jw (cs := [nI r141, nI r142, nS A147 x143 k148, nI c144, nS A150 x145 k151]) 5 hS rfl JJ rfl rfl rfl rfl rfl ?_
    intro w154 hS
    refine Jb 2 <| W.ret ?_
    have hS := hS.pick [1, 0, 2, 3, 4, 5, 6, 7] rfl
    change St _ _ _ _ [_, _, _, _, _, _, _, _] at hS
    repeat with_reducible first | refine blk.ret ?_ | refine exits.retI ?_
    refine endC.mk ⟨[.agg #[nI r141, nI r142, nS A147 x143 k148, nI c144, nS A150 x145 k151], nI r146], ⟨_, _, _, rfl, rfl, JB (cs := [nI r141, nI r142, nS A147 x143 k148, nI c144, nS A150 x145 k151]) JJ Qf rfl (Ju (hS.own (i := 5) rfl)), ⟨_, _, rfl, rfl, rfl⟩⟩, ?_⟩
    exact (hS.pick [1, 0] rfl).fin rfl ⟨r141, r142, x143, c144, x145, r146, A147, k148, A150, k151, hs152, rfl, rfl, hv⟩
end Go.Proofs.Ytgjloioccgcceaa
set_option linter.unusedSimpArgs false
set_option linter.unusedVariables false
set_option maxRecDepth 4000
set_option maxHeartbeats 4000000
namespace Go.Proofs.Ytgjloioccgcceaa
open Go.RowKit
def Jab (Pa : Int) (Ma : Int) (ma : List Int) (Na : Int) (a : List (List Int)) (Pb : Int) (Mb : Int) (mb : List Int) (Nb : Int) (b : List (List Int)) (Q : Bool -> Prop) : Prop :=
  Jaq ([(Pa, Ma, ma, Na, a), (Pb, Mb, mb, Nb, b)] : List Ct) (fun r19 => (((!r19) = true) -> Q true) /\ ((!r19) = false -> (Jar Pa Ma ma Na a Pb Mb mb Nb b (fun (r22, r23, x24, c25, x26, r27) => Y4 Pa Ma ma Na a Pb Mb mb Nb b (fun (r39, r40, x41, c42, x43, r44) => Q3 r22 r23 x24 c25 x26 r27 r39 r40 x41 c42 x43 r44 (fun r56 => Q r56))))))
theorem Jhr {w : World} {Q : Bool -> Prop} {Pa : Int} {Ma : Int} {ma : List Int} {Na : Int} {a : List (List Int)} {Pb : Int} {Mb : Int} {mb : List Int} {Nb : Int} {b : List (List Int)} {Baf : Nat} {Aaf : Option Addr} {naf kaf : Nat} (haf : Rd Baf w 1 Aaf naf kaf (is ma)) {Aa : Option Addr} {na ka : Nat} (ha : Rl w Aa na ka a) {Bbf : Nat} {Abf : Option Addr} {nbf kbf : Nat} (hbf : Rd Bbf w 1 Abf nbf kbf (is mb)) {Ab : Option Addr} {nb kb : Nat} (hb : Rl w Ab nb kb b) (hv : Jab Pa Ma ma Na a Pb Mb mb Nb b Q) :
    Calls Try.prog 4 #[.agg #[.int .i64 Pa, .int .i64 Ma, .slice Aaf naf kaf, .int .i64 Na, .slice Aa na ka], .agg #[.int .i64 Pb, .int .i64 Mb, .slice Abf nbf kbf, .int .i64 Nb, .slice Ab nb kb]] w <| Rt w fun v Qr => ∃ (r0 : Bool), v = .bool r0 /\ Qr = [] /\ Q r0 := by
  have hnaf := haf.ilen
  subst hnaf
  have hna := ha.len
  subst hna
  obtain ⟨hsa, hHa⟩ := ha.heads
  have hnbf := hbf.ilen
  subst hnbf
  have hnb := hb.len
  subst hnb
  obtain ⟨hsb, hHb⟩ := hb.heads
  refine Ji <| Jh (vs := [.agg #[nI Pa, nI Ma, nS Aaf ma kaf, nI Na, nS Aa a ka], .agg #[nI Pb, nI Mb, nS Abf mb kbf, nI Nb, nS Ab b kb]]) [4] XF4 rfl rfl rfl rfl ?_
  have hS := Jp w
  unfold Jab at hv
  refine Jd 2 <| JA (z := 5) (cs := [nI Pa, nI Ma, nS Aaf ma kaf, nI Na, nS Aa a ka]) hS rfl rfl rfl rfl ?_
  intro g11 w12 hS
  refine JA (z := 5) (cs := [nI Pb, nI Mb, nS Abf mb kbf, nI Nb, nS Ab b kb]) hS rfl rfl rfl rfl ?_
  intro g13 w14 hS
  refine Jb 2 <| Jd 3 <| JC 1 JJ Qf hS rfl ⟨rfl, rfl⟩ rfl <| JC 0 JJ Qf hS rfl ⟨rfl, rfl⟩ rfl <| Jat (cells := [nI Pa, nI Ma, nS Aaf ma kaf, nI Na, nS Aa a ka, nI Pb, nI Mb, nS Abf mb kbf, nI Nb, nS Ab b kb]) hS Jih JJ rfl ⟨_, rfl, by kernel_rfl⟩ rfl rfl ?_
  intro A15 w16 hS
  refine SL.call hS (Jjj (Rc.two (a := (Pa, Ma, ma, Na, a)) (b := (Pb, Mb, mb, Nb, b)) (Ha := ((Aaf, kaf), (Aa, ka), hsa)) (Hb := ((Abf, kbf), (Ab, kb), hsb)) (hS.rd (i := 0) rfl) ⟨⟨_, (Jav (hS.ro haf))⟩, (RlH.ext hHa hS.ext)⟩ ⟨⟨_, (Jav (hS.ro hbf))⟩, (RlH.ext hHb hS.ext)⟩) hv) XF8 rfl XN8 rfl rfl ?_
  rintro _ _ w18 ⟨r19, rfl, rfl, hv⟩ hGw18 hS
  have hS := hS.n0
  refine Jb 2 <| Jf rfl (fun c20 => ?_) (fun c20 => ?_)
  .have hv := hv.1 (c20)
   refine Jd 4 <| W.ret <| ⟨_, rfl, Fin.nil ?_⟩
   exact (hS.pick [] rfl).fin rfl ⟨true, rfl, rfl, hv⟩
  have hv := hv.2 (c20)
  refine Jj <| Jd 2 <| JC 2 JJ Qf hS rfl ⟨rfl, rfl⟩ rfl <| JC 1 JJ Qf hS rfl ⟨rfl, rfl⟩ rfl <| SL.call hS (Jlk (hS.ro haf) (RlH.rl (RlH.ext hHa hS.ext)) (hS.ro hbf) (RlH.rl (RlH.ext hHb hS.ext)) hv) XF12 rfl XN12 rfl rfl ?_
  rintro _ _ w21 ⟨r22, r23, x24, c25, x26, r27, A28, k29, A31, k32, hs33, rfl, rfl, hv⟩ hGw21 hS
  have hS := hS.n2
  refine Jb 3 <| SL.alloc (cs := [nI 0, nI 0, .slice none 0 0, nI 0, .slice none 0 0]) hS JJ rfl rfl ?_
  intro g35 w36 hS
  refine Jw (cs := [nI r22, nI r23, nS A28 x24 k29, nI c25, nS A31 x26 k32]) 0 hS rfl JJ rfl rfl rfl rfl rfl ?_
  intro w37 hS
  refine Jb 2 <| Jd 2 <| JC 5 JJ Qf hS rfl ⟨rfl, rfl⟩ rfl <| JC 4 JJ Qf hS rfl ⟨rfl, rfl⟩ rfl <| SL.call hS (Jhk (hS.ro haf) (RlH.rl (RlH.ext hHa hS.ext)) (hS.ro hbf) (RlH.rl (RlH.ext hHb hS.ext)) hv) XF13 rfl XN13 rfl rfl ?_
  rintro _ _ w38 ⟨r39, r40, x41, c42, x43, r44, A45, k46, A48, k49, hs50, rfl, rfl, hv⟩ hGw38 hS
  have hS := hS.n2
  refine Jb 3 <| SL.alloc (cs := [nI 0, nI 0, .slice none 0 0, nI 0, .slice none 0 0]) hS JJ rfl rfl ?_
  intro g52 w53 hS
  refine Jw (cs := [nI r39, nI r40, nS A45 x41 k46, nI c42, nS A48 x43 k49]) 0 hS rfl JJ rfl rfl rfl rfl rfl ?_
  intro w54 hS
  refine Jb 2 <| Jd 2 <| JC 3 JJ Qf hS rfl ⟨rfl, rfl⟩ rfl <| Jo rfl rfl <| JC 0 JJ Qf hS rfl ⟨rfl, rfl⟩ rfl <| Jo rfl rfl <| SL.call hS (Jey (hS.rd (i := 4) rfl) (hS.rl (i := 5) rfl) (hS.rd (i := 1) rfl) (hS.rl (i := 2) rfl) hv) XF11 rfl XN11 rfl rfl ?_
  rintro _ _ w55 ⟨r56, rfl, rfl, hv⟩ hGw55 hS
  have hS := hS.n0
  refine Jb 2 <| W.ret <| ⟨_, rfl, Fin.nil ?_⟩
  exact (hS.pick [] rfl).fin rfl ⟨r56, rfl, rfl, hv⟩
end Go.Proofs.Ytgjloioccgcceaa
set_option linter.unusedVariables false
set_option linter.unusedSimpArgs false
namespace Go.Proofs.Ytgjloioccgcceaa
/-! ### two codes: their errors; codes generated by rows -/
section
variable {P M P' M' : Int} {mf mg : List Int} {p m v : Nat} {N C Na Nb n d : Int} {X Y a b : List (List Int)}
theorem Jn9 {Q : Int -> Prop} (h : Q (if cck P M mf Na a ≠ 0 then cck P M mf Na a else cck P' M' mg Nb b)) : YR [(P, M, mf, Na, a), (P', M', mg, Nb, b)] Q := by
  refine ⟨fun z => z = 0 ∨ (z = 1 /\ cck P M mf Na a = 0) ∨ (z = 2 /\ cck P M mf Na a = 0 /\ cck P' M' mg Nb b = 0), fun z => (2 - z).toNat, .inl rfl, ?_⟩
  rintro z (rfl | ⟨rfl, h0⟩ | ⟨rfl, h0, h1⟩)
  . refine ⟨fun _ => ⟨⟨by first | decide | simp, by first | decide | simp⟩, Jeg ⟨fun h0 => ?_, fun h0 => ⟨Jq (by first | decide | simp) (by first | decide | simp), .inr (.inl ⟨rfl, Classical.not_not.1 h0⟩), by first | decide | simp⟩⟩⟩, fun hh => absurd (by first | decide | simp) hh⟩
    have h0' : cck P M mf Na a ≠ 0 := h0
    rw [if_pos h0'] at h; exact h
  . refine ⟨fun _ => ⟨⟨by first | decide | simp, by first | decide | simp⟩, Jeg ⟨fun h1 => ?_, fun h1 => ⟨Jq (by first | decide | simp) (by first | decide | simp), .inr (.inr ⟨rfl, h0, Classical.not_not.1 h1⟩), by first | decide | simp⟩⟩⟩, fun hh => absurd (by first | decide | simp) hh⟩
    rw [if_neg (fun hh => hh h0)] at h; exact h
  . refine ⟨fun hh => absurd hh (by first | decide | simp), fun _ => ?_⟩
    rw [if_neg (fun hh => hh h0), h1] at h; exact h
theorem w_same {Q : Bool -> Prop} (hl : mf.length <= 1000000) (h1 : P = P' -> M = M' -> mf = mg -> Q true) (h2 : ¬ (P = P' /\ M = M' /\ mf = mg) -> Q false) : Jfl P M mf P' M' mg Q := by
  refine ⟨fun hP => ⟨fun hM => ⟨fun hne => h2 fun e => hne (by rw [e.2.2]), fun hL => ?_⟩, fun h => h2 fun e => h e.2.1⟩, fun h => h2 fun e => h e.1⟩
  have hL : mf.length = mg.length := by have := Classical.not_not.1 hL; omega
  refine ⟨fun z => ∃ t : Nat, z = t /\ t <= mf.length /\ ∀ j, j < t -> vo mf j = vo mg j, fun z => (mf.length - z).toNat, ⟨0, rfl, Nat.zero_le _, fun j hj => absurd hj (Nat.not_lt_zero j)⟩, ?_⟩
  rintro _ ⟨t, rfl, ht, hj⟩
  dsimp only
  refine ⟨fun hlt => ⟨⟨by omega, by omega⟩, ⟨by omega, by omega⟩, fun hne => h2 fun e => hne (by rw [e.2.2]), fun heq => ⟨Jq (by omega) (by omega), ⟨t + 1, by push_cast; rfl, by omega, fun j hj' => ?_⟩, by omega⟩⟩, fun hge => h1 hP hM ?_⟩
  . rcases Nat.lt_or_ge j t with h | h
    . exact hj j h
    . have : j = t := by omega
      subst this; exact Classical.not_not.1 heq
  . refine List.ext_getElem hL fun i i1 i2 => ?_
    have := hj i (by omega)
    unfold vo at this
    rwa [List.getD_eq_getElem?_getD, List.getElem?_eq_getElem i1, List.getD_eq_getElem?_getD, List.getElem?_eq_getElem i2] at this
/-- two codes that fit, or an error -/
theorem Jtc {Q : Int -> Prop} (h1 : cck P M mf Na a ≠ 0 -> Q (cck P M mf Na a)) (h2 : cck P M mf Na a = 0 -> cck P' M' mg Nb b ≠ 0 -> Q (cck P' M' mg Nb b))
    (h3 : cck P M mf Na a = 0 -> cck P' M' mg Nb b = 0 -> ¬ (P = P' /\ M = M' /\ mf = mg) -> Q 10) (h4 : cck P M mf Na a = 0 -> cck P' M' mg Nb b = 0 -> P = P' -> M = M' -> mf = mg -> Q 0) : Jb7 P M mf Na a P' M' mg Nb b Q := by
  refine Jcf ⟨fun z => (cck P M mf Na a ≠ 0 /\ z = cck P M mf Na a) ∨ (cck P M mf Na a = 0 /\ z = cck P' M' mg Nb b), ⟨fun h0 => Jcf (.inr ⟨h0, rfl⟩), fun h0 => .inl ⟨h0, rfl⟩⟩, ?_⟩
  rintro _ (⟨h0, rfl⟩ | ⟨h0, rfl⟩)
  . exact ⟨fun hh => absurd hh h0, fun _ => h1 h0⟩
  . refine ⟨fun h5 => ?_, fun h5 => h2 h0 h5⟩
    rw [h5]
    obtain ⟨p, m, v, hF⟩ := Jnp h0
    exact Jit (by have := hF.mlen; omega) (fun e1 e2 e3 => ⟨(fun hh => by cases hh), fun _ => h4 h0 h5 e1 e2 e3⟩) fun hne => ⟨fun _ => h3 h0 h5 hne, (fun hh => by cases hh)⟩
theorem w_few2 {Q : Bool -> Prop} (h1 : Q true) (h2 : Q false) : Jaq [(P, M, mf, Na, a), (P', M', mg, Nb, b)] Q := by
  refine ⟨fun z => z = 0 ∨ z = 1 ∨ z = 2, fun z => (2 - z).toNat, .inl rfl, ?_⟩
  rintro z (rfl | rfl | rfl)
  . exact ⟨fun _ => ⟨⟨by first | decide | simp, by first | decide | simp⟩, fun _ => h2, fun h0 => ⟨⟨by first | decide | simp, by first | decide | simp⟩, Jku (by omega) (fun _ _ _ => ⟨(fun hh => by cases hh), fun _ => ⟨Jq (by first | decide | simp) (by first | decide | simp), .inr (.inl rfl), by first | decide | simp⟩⟩) ⟨fun _ => h2, (fun hh => by cases hh)⟩⟩⟩, fun hh => absurd (by first | decide | simp) hh⟩
  . exact ⟨fun _ => ⟨⟨by first | decide | simp, by first | decide | simp⟩, fun _ => h2, fun h0 => ⟨⟨by first | decide | simp, by first | decide | simp⟩, Jku (by omega) (fun _ _ _ => ⟨(fun hh => by cases hh), fun _ => ⟨Jq (by first | decide | simp) (by first | decide | simp), .inr (.inr rfl), by first | decide | simp⟩⟩) ⟨fun _ => h2, (fun hh => by cases hh)⟩⟩⟩, fun hh => absurd (by first | decide | simp) hh⟩
  . exact ⟨fun hh => absurd hh (by first | decide | simp), fun _ => h1⟩
/-- two codes over one field -/
theorem Jg1 (h0 : cck P M mf Na a = 0) (h1 : cck P M mf Nb b = 0) : (1 <= Na /\ Na <= 64) /\ (1 <= Nb /\ Nb <= 64) /\ ∃ p m v, FV P M mf p m v /\ shp Na a /\ Els p m a /\ shp Nb b /\ Els p m b /\ a.length <= 64 /\ b.length <= 64 := by
  obtain ⟨ha, p, m, v, q, G⟩ := Y0 h0
  obtain ⟨hb, p', m', v', q', G'⟩ := Y0 h1
  obtain ⟨rfl, rfl, rfl⟩ := G.f.uniq3 G'.f
  have := G.q.len; have := G'.q.len
  exact ⟨ha, hb, p, m, v, G.f, G.s, G.e, G'.s, G'.e, by omega, by omega⟩
end
end Go.Proofs.Ytgjloioccgcceaa
set_option linter.unusedVariables false
set_option linter.unusedSimpArgs false
namespace Go.Proofs.Ytgjloioccgcceaa
/-! ### what a way to make a code of two codes yields -/
section
variable {P M P' M' : Int} {mf mg : List Int} {p m v : Nat} {N C Na Nb n d : Int} {X Y a b : List (List Int)}
theorem oc2_E {cond : Prop} {R : List (List Int)} {Q : QC} (h : Q (oc2 P M mf Na a P' M' mg Nb b cond N R)) : OcE P M mf Na a P' M' mg Nb b cond N R Q := by
  unfold oc2 at h
  refine ⟨fun h1 => ?_, fun h1 h2 => ?_, fun h1 h2 h3 => ?_, fun h1 h2 h3 h4 => ?_, fun h1 h2 h3 h4 p m v hF => ?_⟩
  . rw [if_pos h1] at h; exact h
  . rw [if_neg (fun hh => hh h1), if_pos h2] at h; exact h
  . rw [if_neg (fun hh => hh h1), if_neg (fun hh => hh h2), if_pos h3] at h; exact h
  . rw [if_neg (fun hh => hh h1), if_neg (fun hh => hh h2), if_neg (fun hh => hh h3), if_pos h4] at h; exact h
  . rw [if_neg (fun hh => hh h1), if_neg (fun hh => hh h2), if_neg (fun hh => hh h3), if_neg (by omega), Jd2 hF] at h; exact h
theorem Jiw {cond : Prop} {R : List (List Int)} {K : Bool -> Prop} (hR : cck P M mf Na a = 0 -> cck P' M' mg Nb b = 0 -> (P = P' /\ M = M' /\ mf = mg) /\ cond -> N <= 64 -> shp N R) (h : K true) :
    let o := oc2 P M mf Na a P' M' mg Nb b cond N R
    Q3 o.1 o.2.1 o.2.2.1 o.2.2.2.1 o.2.2.2.2.1 o.2.2.2.2.2 o.1 o.2.1 o.2.2.1 o.2.2.2.1 o.2.2.2.2.1 o.2.2.2.2.2 K := by
  intro o
  have hz : ∀ e, (oz e).2.2.1.length <= 1000000 /\ (oz e).2.2.2.2.1.length <= 1000000 /\ ∀ t, t < (oz e).2.2.2.2.1.length -> (row (oz e).2.2.2.2.1 t).length <= 1000000 := fun e => ⟨by simp [oz], by simp [oz], fun t ht => absurd ht (by simp [oz])⟩
  have key : o.2.2.1.length <= 1000000 /\ o.2.2.2.2.1.length <= 1000000 /\ ∀ t, t < o.2.2.2.2.1.length -> (row o.2.2.2.2.1 t).length <= 1000000 := by
    show (oc2 P M mf Na a P' M' mg Nb b cond N R).2.2.1.length <= 1000000 /\ (oc2 P M mf Na a P' M' mg Nb b cond N R).2.2.2.2.1.length <= 1000000 /\ ∀ t, t < (oc2 P M mf Na a P' M' mg Nb b cond N R).2.2.2.2.1.length -> (row (oc2 P M mf Na a P' M' mg Nb b cond N R).2.2.2.2.1 t).length <= 1000000
    unfold oc2
    split
    . exact hz _
    . rename_i h1
      split
      . exact hz _
      . rename_i h2
        split
        . exact hz _
        . rename_i h3
          split
          . exact hz _
          . rename_i h4
            have h1 := Classical.not_not.1 h1
            obtain ⟨p, m, v, hF⟩ := Jnp h1
            have hs := hR h1 (Classical.not_not.1 h2) (Classical.not_not.1 h3) (by omega)
            have l := Ji9 (Z2 (p := p) (m := m) (v := v) hs)
            rw [Jd2 hF]
            exact ⟨by have := hF.mlen; show mf.length <= 1000000; omega, l.1, l.2⟩
  exact Jee key.1 key.2.1 key.2.2 h
end
end Go.Proofs.Ytgjloioccgcceaa
set_option linter.unusedVariables false
set_option linter.unusedSimpArgs false
namespace Go.Proofs.Ytgjloioccgcceaa
/-! ### direct sums, and the words (u, u + v) -/
section
variable {P M P' M' : Int} {mf mg : List Int} {p m v : Nat} {N C Na Nb n d : Int} {X Y a b : List (List Int)}
/-- the frame of a way to make a code of two codes, by the program -/
theorem check2 {cond : Prop} {R : List (List Int)} {Q : QC} {Z : Prop} (E : OcE P M mf Na a P' M' mg Nb b cond N R Q)
    (h : cck P M mf Na a = 0 -> cck P' M' mg Nb b = 0 -> P = P' -> M = M' -> mf = mg -> Z) (hz : ¬ (P = P' /\ M = M' /\ mf = mg) -> cck P M mf Na a = 0 -> cck P' M' mg Nb b = 0 -> Q (oz 10)) :
    YR [(P, M, mf, Na, a), (P', M', mg, Nb, b)] (fun r => ((r ≠ (0 : Int)) -> Q (0, 0, [], 0, [], r)) /\ (¬ (r ≠ (0 : Int)) -> Jfl P M mf P' M' mg (fun s => (((!s) = true) -> Q (0, 0, [], 0, [], 10)) /\ ((!s) = false -> Z)))) := by
  refine Jn9 ⟨fun hne => ?_, fun h0 => ?_⟩
  . by_cases h0 : cck P M mf Na a ≠ 0
    . rw [if_pos h0]; exact E.e1 h0
    . rw [if_neg h0] at hne ⊢; exact E.e2 (Classical.not_not.1 h0) hne
  have h1 : cck P M mf Na a = 0 := Classical.byContradiction fun hh => by rw [if_pos hh] at h0; exact h0 hh
  rw [if_neg (fun hh => hh h1)] at h0
  have h2 := Classical.not_not.1 h0
  obtain ⟨p, m, v, hF⟩ := Jnp h1
  exact w_same (by have := hF.mlen; omega) (fun e1 e2 e3 => ⟨(fun hh => by cases hh), fun _ => h h1 h2 e1 e2 e3⟩) fun hne => ⟨fun _ => hz hne h1 h2, (fun hh => by cases hh)⟩
theorem Jut {cond : Prop} {R : List (List Int)} {Q : QC} {Z : Prop} (E : OcE P M mf Na a P' M' mg Nb b cond N R Q) (h : cck P M mf Na a = 0 -> cck P' M' mg Nb b = 0 -> P = P' -> M = M' -> mf = mg -> Z) :
    Jb7 P M mf Na a P' M' mg Nb b (fun r => ((r ≠ (0 : Int)) -> Q (0, 0, [], 0, [], r)) /\ (¬ (r ≠ (0 : Int)) -> Z)) :=
  Jtc (fun h1 => ⟨fun _ => E.e1 h1, fun hh => absurd h1 hh⟩) (fun h1 h2 => ⟨fun _ => E.e2 h1 h2, fun hh => absurd h2 hh⟩) (fun h1 h2 hne => ⟨fun _ => E.e3 h1 h2 fun hh => hne hh.1, fun hh => absurd (by decide) hh⟩) fun h1 h2 e1 e2 e3 => ⟨fun hh => absurd rfl hh, fun _ => h h1 h2 e1 e2 e3⟩

end
end Go.Proofs.Ytgjloioccgcceaa
set_option linter.unusedVariables false
set_option linter.unusedSimpArgs false
namespace Go.Proofs.Ytgjloioccgcceaa
/-! ### products of codes -/
section
variable {P M P' M' : Int} {mf mg : List Int} {p m v g : Nat} {F : GFv} {N C Na Nb n d : Int} {X Y a b : List (List Int)} {u y : List Int}
theorem Jhd (u y : List Int) (k : Nat) : ou p m v u y (k + 1) = ou p m v u y k ++ sc p m v (vo u k) y := by simp [ou, List.range_succ]
theorem Jhe (u y : List Int) : ∀ k, (ou p m v u y k).length = k * y.length
  | 0 => by simp [ou]
  | k + 1 => by rw [Jhd, List.length_append, Jhe u y k, Zb, Nat.succ_mul]
theorem ou_els (hp : 0 < p) (k : Nat) : Elr p m (ou p m v u y k) := fun x hx => by
  obtain ⟨l, hl, hx⟩ := List.mem_flatten.1 hx
  obtain ⟨i, _, rfl⟩ := List.mem_map.1 hl
  exact Jk6 hp x hx
theorem Jtg {Q : List Int -> Prop} (K : GFk F p m v g) (hu : u.length <= 64) (hy : y.length <= 64) (h : Q (ou p m v u y u.length)) : Jea F u y Q := by
  refine ⟨fun x z => ∃ k : Nat, z = k /\ k <= u.length /\ x = ou p m v u y k, fun _ z => (u.length - z).toNat, ⟨0, rfl, Nat.zero_le _, rfl⟩, ?_⟩
  rintro _ _ ⟨k, rfl, hk, rfl⟩
  dsimp only
  have hb : k * y.length <= 64 * 64 := Nat.mul_le_mul (by omega) hy
  refine ⟨fun hlt => ⟨⟨by omega, by omega⟩, Jgu K (by omega) ⟨by rw [Jhe, Zb]; omega, Jq (by omega) (by omega), ⟨k + 1, by push_cast; rfl, by omega, by rw [Jhd]; rfl⟩, by omega⟩⟩, fun hge => ?_⟩
  obtain rfl : k = u.length := by omega
  exact h
theorem Jtp {x : Int} {j : Nat} (h : j < y.length) : (sc p m v x y).take (j + 1) = (sc p m v x y).take j ++ [Ml p m v x (vo y j)] := by
  rw [List.take_add_one]
  congr 1
  unfold sc vo
  rw [List.getElem?_map, List.getElem?_eq_getElem h, List.getD_eq_getElem?_getD, List.getElem?_eq_getElem h]; rfl
theorem Jn8 {Q : List Int -> Prop} (hF : FV P M mf p m v) (hu : u.length <= 64) (hy : y.length <= 64) (h : Q (ou p m v u y u.length)) : Jan P M mf u y Q := by
  refine ⟨fun x z => ∃ k : Nat, z = k /\ k <= u.length /\ x = ou p m v u y k, fun _ z => (u.length - z).toNat, ⟨0, rfl, Nat.zero_le _, rfl⟩, ?_⟩
  rintro _ _ ⟨k, rfl, hk, rfl⟩
  dsimp only
  have hb : k * y.length <= 64 * 64 := Nat.mul_le_mul (by omega) hy
  refine ⟨fun hlt => ?_, fun hge => ?_⟩
  . refine ⟨fun x z => ∃ j : Nat, z = j /\ j <= y.length /\ x = ou p m v u y k ++ (sc p m v (vo u k) y).take j, fun _ z => (y.length - z).toNat, ⟨0, rfl, Nat.zero_le _, by simp⟩, ?_⟩
    rintro _ _ ⟨j, rfl, hj, rfl⟩
    dsimp only
    refine ⟨fun hl => ⟨⟨by omega, by omega⟩, ⟨by omega, by omega⟩, _, Jgx hF rfl, ?_, Jq (by omega) (by omega), ⟨j + 1, by push_cast; rfl, by omega, ?_⟩, by omega⟩, fun hg => ?_⟩
    . rw [List.length_append, Jhe, List.length_take, Zb]; omega
    . rw [Jtp (by omega), <- List.append_assoc]; rfl
    . obtain rfl : j = y.length := by omega
      exact ⟨Jq (by omega) (by omega), ⟨k + 1, by push_cast; rfl, by omega, by rw [Jhd, List.take_of_length_le (by rw [Zb]; exact Nat.le_refl _)]⟩, by omega⟩
  obtain rfl : k = u.length := by omega
  exact h
theorem Jg9 (a b : List (List Int)) (k : Nat) : pr p m v a b (k + 1) = pr p m v a b k ++ ml (prr p m v a b k) b.length := by simp [pr, List.range_succ]
theorem Jha (a b : List (List Int)) : ∀ k, (pr p m v a b k).length = k * b.length
  | 0 => by simp [pr]
  | k + 1 => by rw [Jg9, List.length_append, Jha a b k, Jcs, Nat.succ_mul]
theorem Jq0 {k : Nat} {r : List Int} (h : r ∈ pr p m v a b k) : ∃ i j, i < k /\ j < b.length /\ r = prr p m v a b i j := by
  obtain ⟨l, hl, hr⟩ := List.mem_flatten.1 h
  obtain ⟨i, hi, rfl⟩ := List.mem_map.1 hl
  obtain ⟨j, hj, rfl⟩ := List.mem_map.1 hr
  exact ⟨i, j, List.mem_range.1 hi, List.mem_range.1 hj, rfl⟩
theorem Jq1 (hF : FV P M mf p m v) {k : Nat} : Els p m (pr p m v a b k) := fun r hr => by
  obtain ⟨i, j, _, _, rfl⟩ := Jq0 hr
  exact ou_els (by have := hF.p2; omega) _
theorem Jg0 (h0 : cck P M mf Na a = 0) (h1 : cck P M mf Nb b = 0) : a.length <= Na.toNat /\ b.length <= Nb.toNat := by
  obtain ⟨ha, p, m, v, q, G⟩ := Y0 h0
  obtain ⟨hb, p', m', v', q', G'⟩ := Y0 h1
  exact ⟨G.q.len, G'.q.len⟩
theorem Jla (ha : shp Na a) (hb : shp Nb b) (la : a.length <= Na.toNat) (lb : b.length <= Nb.toNat) (h1 : 1 <= Na) (h2 : 1 <= Nb) (hN : Na * Nb <= 64) : shp (Na * Nb) (pr p m v a b a.length) := by
  obtain ⟨x, rfl⟩ := Int.eq_ofNat_of_zero_le (show 0 <= Na by omega)
  obtain ⟨z, rfl⟩ := Int.eq_ofNat_of_zero_le (show 0 <= Nb by omega)
  have hc : ((x : Int) * (z : Int)) = ((x * z : Nat) : Int) := by push_cast; rfl
  have hl : a.length * b.length <= x * z := Nat.mul_le_mul la lb
  rw [hc] at hN ⊢
  refine ⟨by omega, by omega, by rw [Jha]; omega, fun r hr => ?_⟩
  obtain ⟨i, j, hi, hj, rfl⟩ := Jq0 hr
  rw [prr, Jhe, Qt ha hi, Qt hb hj]; rfl
noncomputable def prE (P M : Int) (mf : List Int) (a b : List (List Int)) : List (List Int) := pr P.toNat M.toNat (Classical.epsilon fun v => FV P M mf P.toNat M.toNat v) a b a.length
theorem Jlb (hF : FV P M mf p m v) : prE P M mf a b = pr p m v a b a.length := by
  have h1 : P.toNat = p := by have := hF.eP; omega
  have h2 : M.toNat = m := by have := hF.eM; omega
  unfold prE
  rw [h1, h2]
  have h3 : FV P M mf p m (Classical.epsilon fun v => FV P M mf p m v) := Classical.epsilon_spec ⟨v, hF⟩
  obtain ⟨_, _, h4⟩ := hF.uniq3 h3
  rw [<- h4]
theorem prN (h1 : 1 <= Na /\ Na <= 64) (h2 : 1 <= Nb /\ Nb <= 64) : 1 <= Na * Nb /\ Na * Nb <= 4096 := by
  have h3 : (1 : Int) * 1 <= Na * Nb := Int.mul_le_mul h1.1 h2.1 (by omega) (by omega)
  have h4 : Na * Nb <= 64 * 64 := Int.mul_le_mul h1.2 h2.2 (by omega) (by omega)
  omega
theorem Job {Q : QC} (E : OcE P M mf Na a P' M' mg Nb b True (Na * Nb) (prE P M mf a b) Q) : Jar P M mf Na a P' M' mg Nb b Q := by
  refine check2 E (fun h1 h2 e1 e2 e3 => ?_) (fun hne h1 h2 => E.e3 h1 h2 fun hh => hne hh.1)
  subst e1 e2 e3
  obtain ⟨hna, hnb, p, m, v, hF, sa, ea, sb, eb, la, lb⟩ := Jg1 h1 h2
  obtain ⟨ka, kb⟩ := Jg0 h1 h2
  have hN := prN hna hnb
  refine ⟨Jq (by omega) (by omega), fun h64 => E.e4 h1 h2 ⟨⟨rfl, rfl, rfl⟩, trivial⟩ h64, fun h64 => v_New (fun hn => absurd ⟨p, m, v, hF⟩ hn) fun F p' m' v' g K e1 e2 e3 => ⟨fun hh => absurd rfl hh, fun _ => ?_⟩⟩
  have hF' : FV P M mf p' m' v' := by rw [<- e1, <- e2, <- e3]; exact K.fv
  obtain ⟨rfl, rfl, rfl⟩ := hF.uniq3 hF'
  refine ⟨fun x z => ∃ k : Nat, z = k /\ k <= a.length /\ x = pr p m v a b k, fun _ z => (a.length - z).toNat, ⟨0, rfl, Nat.zero_le _, rfl⟩, ?_⟩
  rintro _ _ ⟨k, rfl, hk, rfl⟩
  dsimp only
  have hb : k * b.length <= 64 * 64 := Nat.mul_le_mul (by omega) lb
  refine ⟨fun hlt => ⟨⟨by omega, by omega⟩, fun x z => ∃ j : Nat, z = j /\ j <= b.length /\ x = pr p m v a b k ++ ml (prr p m v a b k) j, fun _ z => (b.length - z).toNat, ⟨0, rfl, Nat.zero_le _, by simp [ml]⟩, ?_⟩, fun hge => ?_⟩
  . rintro _ _ ⟨j, rfl, hj, rfl⟩
    dsimp only
    refine ⟨fun hl => ?_, fun hg => ?_⟩
    . have h3 := Qt sa (t := k) (by omega); have h4 := Qt sb (t := j) (by omega)
      exact ⟨⟨by omega, by omega⟩, Jtg K (by show (row a k).length <= _; omega) (by show (row b j).length <= _; omega) ⟨by rw [List.length_append, Jha, Jcs]; omega, Jq (by omega) (by omega), ⟨j + 1, by push_cast; rfl, by omega, by rw [Jdy, <- List.append_assoc]; rfl⟩, by omega⟩⟩
    . obtain rfl : j = b.length := by omega
      exact ⟨Jq (by omega) (by omega), ⟨k + 1, by push_cast; rfl, by omega, by rw [Jg9]⟩, by omega⟩
  . obtain rfl : k = a.length := by omega
    refine ⟨Jq (by omega) (by omega), Jc9 hF (Jla sa sb ka kb hna.1 hnb.1 (by omega)) (Jq1 hF) (by omega) ?_⟩
    rw [<- Jlb hF]
    exact E.ok h1 h2 ⟨⟨rfl, rfl, rfl⟩, trivial⟩ (by omega) _ _ _ hF
theorem Jis {Q : QC} (E : OcE P M mf Na a P' M' mg Nb b True (Na * Nb) (prE P M mf a b) Q) : Y4 P M mf Na a P' M' mg Nb b Q := by
  refine Jut E (fun h1 h2 e1 e2 e3 => ?_)
  subst e1 e2 e3
  obtain ⟨hna, hnb, p, m, v, hF, sa, ea, sb, eb, la, lb⟩ := Jg1 h1 h2
  obtain ⟨ka, kb⟩ := Jg0 h1 h2
  have hN := prN hna hnb
  refine ⟨Jq (by omega) (by omega), fun h64 => E.e4 h1 h2 ⟨⟨rfl, rfl, rfl⟩, trivial⟩ h64, fun h64 => ?_⟩
  refine ⟨fun x z => ∃ k : Nat, z = k /\ k <= a.length /\ x = pr p m v a b k, fun _ z => (a.length - z).toNat, ⟨0, rfl, Nat.zero_le _, rfl⟩, ?_⟩
  rintro _ _ ⟨k, rfl, hk, rfl⟩
  dsimp only
  have hb : k * b.length <= 64 * 64 := Nat.mul_le_mul (by omega) lb
  refine ⟨fun hlt => ⟨fun x z => ∃ j : Nat, z = j /\ j <= b.length /\ x = pr p m v a b k ++ ml (prr p m v a b k) j, fun _ z => (b.length - z).toNat, ⟨0, rfl, Nat.zero_le _, by simp [ml]⟩, ?_⟩, fun hge => ?_⟩
  . rintro _ _ ⟨j, rfl, hj, rfl⟩
    dsimp only
    refine ⟨fun hl => ?_, fun hg => ?_⟩
    . have h3 := Qt sa (t := k) (by omega); have h4 := Qt sb (t := j) (by omega)
      refine ⟨fun x => x = pr p m v a b k ++ ml (prr p m v a b k) (j + 1), ⟨⟨by omega, by omega⟩, ⟨by omega, by omega⟩, _, Jn8 hF (by show (row a k).length <= _; omega) (by show (row b j).length <= _; omega) rfl, by rw [List.length_append, Jha, Jcs]; omega, by rw [Jdy, <- List.append_assoc]; rfl⟩, ?_⟩
      rintro _ rfl
      exact ⟨Jq (by omega) (by omega), ⟨j + 1, by push_cast; rfl, by omega, rfl⟩, by omega⟩
    . obtain rfl : j = b.length := by omega
      exact ⟨Jq (by omega) (by omega), ⟨k + 1, by push_cast; rfl, by omega, by rw [Jg9]⟩, by omega⟩
  . obtain rfl : k = a.length := by omega
    refine ⟨Jq (by omega) (by omega), Jir hF (Jla sa sb ka kb hna.1 hnb.1 (by omega)) (Jq1 hF) ?_⟩
    rw [<- Jlb hF]
    exact E.ok h1 h2 ⟨⟨rfl, rfl, rfl⟩, trivial⟩ (by omega) _ _ _ hF
theorem pr_ok (h1 : cck P M mf Na a = 0) (h2 : cck P' M' mg Nb b = 0) (h3 : (P = P' /\ M = M' /\ mf = mg) /\ True) (h4 : Na * Nb <= 64) : shp (Na * Nb) (prE P M mf a b) := by
  obtain ⟨⟨rfl, rfl, rfl⟩, _⟩ := h3
  obtain ⟨hna, hnb, p, m, v, hF, sa, ea, sb, eb, la, lb⟩ := Jg1 h1 h2
  obtain ⟨ka, kb⟩ := Jg0 h1 h2
  rw [Jlb hF]
  exact Jla sa sb ka kb hna.1 hnb.1 h4
theorem Jaw (P M : Int) (mf : List Int) (Na : Int) (a : List (List Int)) (P' M' : Int) (mg : List Int) (Nb : Int) (b : List (List Int)) : Jab P M mf Na a P' M' mg Nb b (fun b => b = true) := by
  refine w_few2 ⟨fun _ => rfl, fun _ => ?_⟩ ⟨fun _ => rfl, (fun hh => by cases hh)⟩
  refine Job (oc2_E ?_)
  refine Jis (oc2_E ?_)
  exact Jiw pr_ok rfl
end
end Go.Proofs.Ytgjloioccgcceaa
