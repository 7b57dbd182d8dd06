/- Contracts of functions of the program, and what they lean on: D10, D11, D15, D16, D30, D32, Cd, D33, D41, D42, D43, D36, Dt, Fa, Fb, Fg, Fp. -/
import Derived.Test.YtgjloioccgcceaaCombineProductsG5
set_option linter.unusedSimpArgs false
set_option linter.unusedVariables false
set_option maxRecDepth 4000
set_option maxHeartbeats 4000000
namespace Go.Proofs.Ytgjloioccgcceaa
open Go.RowKit
def Yw (Fg : GFv) (cols : Int) (u : LL) (y : LL) (Q : LI × Int × LL × LL -> Prop) : Prop :=
  ∃ J26 : LL -> LL -> LI -> Int -> Prop, (∃ (I57 : LL -> LL -> LI -> Int -> Int -> Prop) (μ58 : LL -> LL -> LI -> Int -> Int -> Nat), I57 u y ([] : LI) (1 : Int) (0 : Int) /\ ∀ (x47 : LL) (x49 : LL) (x51 : LI) (z55 : Int) (z56 : Int), (I57 x47 x49 x51 z55 z56 -> (((z56 < cols) -> ((((x51.length : Int) < (u.length : Int)) -> (∃ J74 : LI -> LL -> LL -> Int -> Int -> Bool -> Prop, (Yi x47 (x51.length : Int) z56 (fun r79 => ((r79 = (u.length : Int)) -> (J74 x51 x47 x49 z55 r79 (decide (r79 = (u.length : Int))))) /\ (¬ (r79 = (u.length : Int)) -> (∃ J89 : LL -> LL -> Int -> Prop, (((r79 ≠ (x51.length : Int)) -> ((0 <= (x51.length : Int) /\ (x51.length : Int) < (u.length : Nat)) /\ ((0 <= r79 /\ r79 < (u.length : Nat)) /\ ((0 <= r79 /\ r79 < (u.length : Nat)) /\ ((0 <= (x51.length : Int) /\ (x51.length : Int) < (u.length : Nat)) /\ ((0 <= (x51.length : Int) /\ (x51.length : Int) < (y.length : Nat)) /\ ((0 <= r79 /\ r79 < (y.length : Nat)) /\ ((0 <= r79 /\ r79 < (y.length : Nat)) /\ ((0 <= (x51.length : Int) /\ (x51.length : Int) < (y.length : Nat)) /\ (ZO Fg z55 (fun r93 => J89 (sll (sll x47 r79 (gl x47 (x51.length : Int))) (x51.length : Int) (gl x47 r79)) (sll (sll x49 r79 (gl x49 (x51.length : Int))) (x51.length : Int) (gl x49 r79)) r93))))))))))) /\ (¬ (r79 ≠ (x51.length : Int)) -> J89 x47 x49 z55)) /\ ∀ (x84 : LL) (x86 : LL) (z88 : Int), (J89 x84 x86 z88 -> ((0 <= (x51.length : Int) /\ (x51.length : Int) < (u.length : Nat)) /\ ((0 <= z56 /\ z56 < ((gl x84 (x51.length : Int)).length : Nat)) /\ (∃ (r149 : Int), Jfp Fg z88 (gi (gl x84 (x51.length : Int)) z56) (fun q => q = r149) /\ (∃ J156 : Int -> Prop, ((0 <= (x51.length : Int) /\ (x51.length : Int) < (u.length : Nat)) /\ ((0 <= z56 /\ z56 < ((gl x84 (x51.length : Int)).length : Nat)) /\ (∃ (r168 : Int) (r169 : Int), Jnz Fg (gi (gl x84 (x51.length : Int)) z56) (fun q => q = (r168, r169)) /\ J156 r168))) /\ ∀ (z155 : Int), (J156 z155 -> ((0 <= (x51.length : Int) /\ (x51.length : Int) < (u.length : Nat)) /\ (∃ (x338 : LI), Y9 Fg z155 (gl x84 (x51.length : Int)) (fun q => q = x338) /\ ((0 <= (x51.length : Int) /\ (x51.length : Int) < (u.length : Nat)) /\ ((fun (x300 : LL) => (0 <= (x51.length : Int) /\ (x51.length : Int) < (y.length : Nat)) /\ (∃ (x316 : LI), Y9 Fg z155 (gl x86 (x51.length : Int)) (fun q => q = x316) /\ ((0 <= (x51.length : Int) /\ (x51.length : Int) < (y.length : Nat)) /\ ((fun (x303 : LL) => (fun (x184 : LL) (x186 : LL) => ∃ (I204 : LL -> LL -> Int -> Prop) (μ205 : LL -> LL -> Int -> Nat), I204 x184 x186 (0 : Int) /\ ∀ (x199 : LL) (x201 : LL) (z203 : Int), (I204 x199 x201 z203 -> (((z203 < (u.length : Int)) -> (∃ J215 : LL -> LL -> Int -> Prop, ((0 <= z203 /\ z203 < (u.length : Nat)) /\ ((0 <= z56 /\ z56 < ((gl x199 z203).length : Nat)) /\ (∃ (r230 : Int), ZO Fg (gi (gl x199 z203) z56) (fun q => q = r230) /\ (((z203 ≠ (x51.length : Int)) -> ((0 <= z203 /\ z203 < (u.length : Nat)) /\ ((0 <= (x51.length : Int) /\ (x51.length : Int) < (u.length : Nat)) /\ (((x51.length : Int).toNat ≠ z203.toNat) /\ (J1 Fg (gl x199 z203) r230 (gl x199 (x51.length : Int)) (fun x288 => (fun (x247 : LL) => (0 <= z203 /\ z203 < (y.length : Nat)) /\ ((0 <= (x51.length : Int) /\ (x51.length : Int) < (y.length : Nat)) /\ (((x51.length : Int).toNat ≠ z203.toNat) /\ (J1 Fg (gl x201 z203) r230 (gl x201 (x51.length : Int)) (fun x270 => (fun (x250 : LL) => (fun (x242 : LL) (x244 : LL) => J215 x242 x244 r230) x247 x250) (sll x201 z203 x270)))))) (sll x199 z203 x288))))))) /\ (¬ (z203 ≠ (x51.length : Int)) -> J215 x199 x201 r230))))) /\ ∀ (x208 : LL) (x210 : LL) (z214 : Int), (J215 x208 x210 z214 -> ((I64 (z203 + 1)) /\ (I204 x208 x210 (z203 + 1) /\ μ205 x208 x210 (z203 + 1) < μ205 x199 x201 z203))))) /\ (¬ (z203 < (u.length : Int)) -> ((((x51.length : Nat) + (1 : Nat) : Int) * 8 <= 140737488355328) /\ (J74 (x51 ++ ([z56] : LI)) x199 x201 r149 r79 (decide (r79 = (u.length : Int))))))))) x300 x303) (sll x86 (x51.length : Int) x316))))) (sll x84 (x51.length : Int) x338))))))))))))))) /\ ∀ (x62 : LI) (x65 : LL) (x67 : LL) (z69 : Int) (z72 : Int) (b73 : Bool), (J74 x62 x65 x67 z69 z72 b73 -> ((I64 (z56 + 1)) /\ (I57 x65 x67 x62 z69 (z56 + 1) /\ μ58 x65 x67 x62 z69 (z56 + 1) < μ58 x47 x49 x51 z55 z56))))) /\ (¬ ((x51.length : Int) < (u.length : Int)) -> J26 x47 x49 x51 z55))) /\ (¬ (z56 < cols) -> J26 x47 x49 x51 z55)))) /\ ∀ (x17 : LL) (x19 : LL) (x21 : LI) (z25 : Int), (J26 x17 x19 x21 z25 -> (Q (x21, z25, x17, x19)))
theorem Jho {X : World -> Prop} {w0 w : World} {mr : Option Nat} {R0 : List Rw} {Q : LI × Int × LL × LL -> Prop} {Fg : GFv} {cols : Int} {u : LL} {y : LL} {Au : Option Addr} {ku : Nat} {hsu : Hs} {Ay : Option Addr} {ky : Nat} {hsy : Hs} {ag : Addr} (hfgg : GFok X w0 mr R0 ag Fg) (hS : St X w0 mr w (mx 22 3 Au u.length ku hsu u :: mx 22 3 Ay y.length ky hsy y :: R0)) (hv : Yw Fg cols u y Q) :
   Calls Try.prog 105 #[.pointer (some ag), .int .i64 cols, .slice Au u.length ku, .slice Ay y.length ky] w fun e w' => ∃ v, e = .returned v /\ ∃ (r0 : LI) (r1 : Int) (fu : LL) (fy : LL) (A0 : Option Addr) (k0 : Nat) (gu : Hs) (gy : Hs), v = .tuple #[.slice A0 r0.length k0, .int .i64 r1] /\ St X w0 mr w' ((.row 3 1 A0 r0.length k0 (is r0)) :: mx 22 3 Au u.length ku gu fu :: mx 22 3 Ay y.length ky gy fy :: R0) /\ Q (r0, r1, fu, fy) := by
 refine Jh (vs := [.pointer (some ag), nI cols, nS Au u ku, nS Ay y ky]) [8, 9] XF105 rfl rfl rfl rfl ?_; unfold Yw at hv; refine Jd 2 <| JA (z := 1) (cs := [.pointer (some ag)]) hS rfl rfl rfl rfl ?_; intro g11 w12 hS; refine JA (z := 1) (cs := [nS Au u ku]) hS rfl rfl rfl rfl ?_; intro g13 w14 hS; refine JA (z := 1) (cs := [nS Ay y ky]) hS rfl rfl rfl rfl ?_; intro g15 w16 hS; refine Jb 3 <| Jd 2 <| QK (vs := [nP g13, nP g15]) rfl rfl <| Jb 2 <| Jd 9 ?_; obtain ⟨J26, hv, hk357⟩ := hv; refine Qq (σ := LL × LL × LI × Int × Hs × Hs × Option Addr × Nat) (fun q w1 => match q with | (x17, x19, x21, z25, hs18, hs20, A22, k23) => J26 x17 x19 x21 z25 /\ St X w0 mr w1 ((nR 3 A22 x21 k23) :: (nV 25 g15 (nS Ay y ky)) :: (nV 25 g13 (nS Au u ku)) :: (nV 50 g11 (.pointer (some ag))) :: (mx 22 3 Au u.length ku hs18 x17) :: (mx 22 3 Ay y.length ky hs20 x19) :: R0)) (fun (x17, x19, x21, z25, hs18, hs20, A22, k23) => [(8, nS A22 x21 k23), (9, nI z25)]) ?_ ?_
 .refine W.block ?_; obtain ⟨I57, μ58, hv, hk355⟩ := hv; have hS := hS.nil (e := 3) (z := 1); have hm0 : 0 = ([] : LI).length := (hS.rd (i := 0) rfl).ilen.symm; have hS := hS.relen (i := 0) rfl hm0
  change St _ _ _ _ (_ :: _ :: _ :: _ :: _ :: _ :: R0) at hS
  refine Jz (σ := LL × LL × LI × Int × Int × Hs × Hs × Option Addr × Nat) (fun q w1 => match q with | (x47, x49, x51, z55, z56, hs48, hs50, A52, k53) => I57 x47 x49 x51 z55 z56 /\ St X w0 mr w1 ((nR 3 A52 x51 k53) :: (nV 25 g15 (nS Ay y ky)) :: (nV 25 g13 (nS Au u ku)) :: (nV 50 g11 (.pointer (some ag))) :: (mx 22 3 Au u.length ku hs48 x47) :: (mx 22 3 Ay y.length ky hs50 x49) :: R0)) (fun (x47, x49, x51, z55, z56, hs48, hs50, A52, k53) => [(1, nI cols), (4, nP g11), (6, nP g13), (8, nS A52 x51 k53), (9, nI z55), (10, .func (.func 110) #[] #[nP g13, nP g15]), (11, nI z56)]) (fun (x47, x49, x51, z55, z56, hs48, hs50, A52, k53) => μ58 x47 x49 x51 z55 z56) (u, y, ([] : LI), (1 : Int), (0 : Int), hsu, hsy, none, 0) ⟨hv, hS⟩ ⟨rfl, rfl, rfl, (sm (by first | rfl | assumption | omega)), rfl, rfl, rfl, trivial⟩ ?_; rintro ⟨x47, x49, x51, z55, z56, hs48, hs50, A52, k53⟩ w59 ⟨hv, hS⟩; have hv := hk355 x47 x49 x51 z55 z56 hv; refine Jd 6 <| Jo rfl rfl ?_; by_cases g60 : z56 < cols
  .have hv := hv.1 g60; rw [decide_eq_true g60]; refine Jb 3 <| WL.len Jn rfl rfl <| WL.take rfl <| Jl 2 0 Jr hS rfl rfl rfl ⟨rfl, rfl⟩ <| WL.take rfl <| WL.len Jr rfl rfl <| Jb 4 <| Jf rfl (fun c61 => ?_) (fun c61 => ?_)
   .have hv := hv.1 (oT c61); refine Jj <| Jv ?_; obtain ⟨J74, hv, hk354⟩ := hv; refine Qq (σ := LI × LL × LL × Int × Int × Bool × Option Addr × Nat × Hs × Hs × Nat × Nat) (fun q w1 => match q with | (x62, x65, x67, z69, z72, b73, A63, k64, hs66, hs68, g70, g71) => J74 x62 x65 x67 z69 z72 b73 /\ St X w0 mr w1 ((nV 3 g70 (nI (x51.length : Int))) :: (nV 3 g71 (nI z72)) :: (nR 3 A63 x62 k64) :: (nV 25 g15 (nS Ay y ky)) :: (nV 25 g13 (nS Au u ku)) :: (nV 50 g11 (.pointer (some ag))) :: (mx 22 3 Au u.length ku hs66 x65) :: (mx 22 3 Ay y.length ky hs68 x67) :: R0)) (fun (x62, x65, x67, z69, z72, b73, A63, k64, hs66, hs68, g70, g71) => [(1, nI cols), (4, nP g11), (6, nP g13), (8, nS A63 x62 k64), (9, nI z69), (10, .func (.func 110) #[] #[nP g13, nP g15]), (11, nI z56), (12, nP g70), (13, nP g71), (28, .bool (decide ((x51.length : Int) < (u.length : Int)))), (40, .bool b73)]) ?_ ?_
    .refine W.block ?_; refine Jd 3 <| WL.len Jn rfl rfl <| SL.alloc (cs := [nI 0]) hS XE3 rfl rfl ?_; intro g75 w76 hS; refine JG (cs' := [nI (x51.length : Int)]) 0 0 hS rfl XE3 rfl rfl rfl (QT rfl) rfl ?_; intro w77 hS; refine Ja <| Jd 2 <| Jl 3 0 Jr hS rfl rfl rfl ⟨rfl, rfl⟩ <| Jl 0 0 XU3 hS rfl rfl rfl ⟨rfl, rfl⟩ <| Jo rfl rfl <| SL.call hS (Jdn (hS.rl (i := 5) rfl) hv) XF111 rfl XN111 rfl rfl ?_; rintro _ _ w78 ⟨r79, rfl, rfl, hv⟩ hGw78 hS; have hS := hS.n0; refine SL.alloc (cs := [nI 0]) hS XE3 rfl rfl ?_; intro g80 w81 hS; refine JG (cs' := [nI r79]) 0 0 hS rfl XE3 rfl rfl rfl (QT rfl) rfl ?_; intro w82 hS; refine Ja <| Jd 3 <| Jl 0 0 XU3 hS rfl rfl rfl ⟨rfl, rfl⟩ <| Jl 4 0 Jr hS rfl rfl rfl ⟨rfl, rfl⟩ <| WL.len Jr rfl rfl <| Jb 2 <| Jf rfl (fun c83 => ?_) (fun c83 => ?_)
     .have hv := hv.1 (oT c83); refine Jt ?_; have hS := hS.pickN 8 [1, 0, 2, 3, 4, 5, 6, 7] rfl; exact ⟨(x51, x47, x49, z55, r79, (decide (r79 = (u.length : Int))), A52, k53, hs48, hs50, g75, g80), sp rfl, rfl, hv, hS⟩
     have hv := hv.2 (oF c83); refine Jj <| Jd 3 <| Jl 0 0 XU3 hS rfl rfl rfl ⟨rfl, rfl⟩ <| Jl 1 0 XU3 hS rfl rfl rfl ⟨rfl, rfl⟩ <| Jb 2 ?_; obtain ⟨J89, hv, hk351⟩ := hv; refine Qq (σ := LL × LL × Int × Hs × Hs) (fun q w1 => match q with | (x84, x86, z88, hs85, hs87) => J89 x84 x86 z88 /\ St X w0 mr w1 ((nV 3 g80 (nI r79)) :: (nV 3 g75 (nI (x51.length : Int))) :: (nR 3 A52 x51 k53) :: (nV 25 g15 (nS Ay y ky)) :: (nV 25 g13 (nS Au u ku)) :: (nV 50 g11 (.pointer (some ag))) :: (mx 22 3 Au u.length ku hs85 x84) :: (mx 22 3 Ay y.length ky hs87 x86) :: R0)) (fun (x84, x86, z88, hs85, hs87) => [(1, nI cols), (4, nP g11), (6, nP g13), (8, nS A52 x51 k53), (9, nI z88), (10, .func (.func 110) #[] #[nP g13, nP g15]), (11, nI z56), (12, nP g75), (13, nP g80), (28, .bool (decide ((x51.length : Int) < (u.length : Int)))), (40, .bool (decide (r79 = (u.length : Int)))), (43, .bool (decide (r79 ≠ (x51.length : Int))))]) ?_ ?_
     .refine Jf rfl (fun c90 => ?_) (fun c90 => ?_)
      .have hv := hv.1 (oT c90); refine Jd 3 <| QK (vs := [nP g75, nP g80]) rfl rfl <| QV (vs := [.func (.func 112) #[] #[nP g75, nP g80]]) (cs := [nP g13, nP g15]) (R := fun v1 w1 => v1 = .tuple #[] /\ (ZO Fg z55 (fun r93 => J89 (sll (sll x47 r79 (gl x47 (x51.length : Int))) (x51.length : Int) (gl x47 r79)) (sll (sll x49 r79 (gl x49 (x51.length : Int))) (x51.length : Int) (gl x49 r79)) r93)) /\ St X w0 mr w1 ((nV 3 g80 (nI r79)) :: (nV 3 g75 (nI (x51.length : Int))) :: (nR 3 A52 x51 k53) :: (nV 25 g15 (nS Ay y ky)) :: (nV 25 g13 (nS Au u ku)) :: (nV 50 g11 (.pointer (some ag))) :: (mx 22 3 Au u.length ku (up (up hs48 r79.toNat (hs48 (x51.length : Int).toNat)) (x51.length : Int).toNat (hs48 r79.toNat)) (sll (sll x47 r79 (gl x47 (x51.length : Int))) (x51.length : Int) (gl x47 r79))) :: (mx 22 3 Ay y.length ky (up (up hs50 r79.toNat (hs50 (x51.length : Int).toNat)) (x51.length : Int).toNat (hs50 r79.toNat)) (sll (sll x49 r79 (gl x49 (x51.length : Int))) (x51.length : Int) (gl x49 r79))) :: R0)) rfl Jgo rfl Jsn rfl rfl (Jh (vs := [.func (.func 112) #[] #[nP g75, nP g80], nP g13, nP g15]) [] Jgo rfl rfl rfl rfl ?_) ?_
       .refine Jv ?_; refine Jd 2 <| Jl 4 0 Jr hS rfl rfl rfl ⟨rfl, rfl⟩ <| QV (vs := [nS Au u ku]) (cs := [nP g75, nP g80]) (R := fun v1 w1 => v1 = .tuple #[] /\ ((0 <= (x51.length : Int) /\ (x51.length : Int) < (y.length : Nat)) /\ ((0 <= r79 /\ r79 < (y.length : Nat)) /\ ((0 <= r79 /\ r79 < (y.length : Nat)) /\ ((0 <= (x51.length : Int) /\ (x51.length : Int) < (y.length : Nat)) /\ (ZO Fg z55 (fun r93 => J89 (sll (sll x47 r79 (gl x47 (x51.length : Int))) (x51.length : Int) (gl x47 r79)) (sll (sll x49 r79 (gl x49 (x51.length : Int))) (x51.length : Int) (gl x49 r79)) r93)))))) /\ St X w0 mr w1 ((nV 3 g80 (nI r79)) :: (nV 3 g75 (nI (x51.length : Int))) :: (nR 3 A52 x51 k53) :: (nV 25 g15 (nS Ay y ky)) :: (nV 25 g13 (nS Au u ku)) :: (nV 50 g11 (.pointer (some ag))) :: (mx 22 3 Au u.length ku (up (up hs48 r79.toNat (hs48 (x51.length : Int).toNat)) (x51.length : Int).toNat (hs48 r79.toNat)) (sll (sll x47 r79 (gl x47 (x51.length : Int))) (x51.length : Int) (gl x47 r79))) :: (mx 22 3 Ay y.length ky hs50 x49) :: R0)) rfl Jnt rfl XN112 rfl rfl (Jh (vs := [nS Au u ku, nP g75, nP g80]) [] Jnt rfl rfl rfl rfl ?_) ?_
        .obtain ⟨o123, hv⟩ := hv; obtain ⟨o128, hv⟩ := hv; obtain ⟨o131, hv⟩ := hv; have hS0 := hS; refine YB 13 [2, 3] (fun _ => false) (fun _ => none) (fun _ v u => u = v) [⟨[], [0], true⟩, ⟨[], [2], false⟩, ⟨[], [0], true⟩, ⟨[], [1], false⟩, ⟨[], [0], true⟩, ⟨[], [1], false⟩, ⟨[4, 5], [], true⟩, ⟨[6], [], false⟩, ⟨[], [0], true⟩, ⟨[], [2], false⟩, ⟨[8, 9], [], true⟩, ⟨[10], [], false⟩, ⟨[0, 1], [], true⟩] [.k 4 (nS Au u ku), .k 5 (nI r79), .k 6 (nS Au u ku), .k 7 (nI (x51.length : Int)), .k 8 (nS Au u ku), .k 9 (nI (x51.length : Int)), .k 10 (.pointer (some ((JI Au).add ((x51.length : Int).toNat)))), .k 11 (.slice ((hs48 (x51.length : Int).toNat).1) ((gl x47 (x51.length : Int)).length) ((hs48 (x51.length : Int).toNat).2)), .k 12 (nS Au u ku), .k 13 (nI r79), .k 14 (.pointer (some ((JI Au).add r79.toNat))), .k 15 (.slice ((hs48 r79.toNat).1) ((gl x47 r79).length) ((hs48 r79.toNat).2)), .k 16 (.pointer (some ((JI Au).add r79.toNat)))] (fun _ => vbD) Try.mixed (by kernel_rfl) rfl rfl (fun _ _ _ _ _ _ _ h => h) ?_ ?_
         . refine ⟨oC, og hS fun _ _ hS => Jl 0 0 XU3 hS rfl rfl rfl ⟨rfl, rfl⟩ <| Ja ⟨rfl, Je _⟩, oC, og hS fun _ _ hS => Jl 1 0 XU3 hS rfl rfl rfl ⟨rfl, rfl⟩ <| Ja ⟨rfl, Je _⟩, oC, og hS fun _ _ hS => Jl 1 0 XU3 hS rfl rfl rfl ⟨rfl, rfl⟩ <| Ja ⟨rfl, Je _⟩, fun _ _ _ => JE 6 Jr Js hS rfl rfl rfl o123 rfl <| Ja ⟨rfl, rfl⟩, og hS fun _ _ hS => Jk Jn rfl rfl (hS.mxcell (i := 6) rfl o123) rfl <| Ja ⟨rfl, Je _⟩, oC, og hS fun _ _ hS => Jl 0 0 XU3 hS rfl rfl rfl ⟨rfl, rfl⟩ <| Ja ⟨rfl, Je _⟩, fun _ _ _ => JE 6 Jr Js hS rfl rfl rfl o128 rfl <| Ja ⟨rfl, rfl⟩, og hS fun _ _ hS => Jk Jn rfl rfl (hS.mxcell (i := 6) rfl o128) rfl <| Ja ⟨rfl, Je _⟩, fun _ _ _ => JE 6 Jr Js hS rfl rfl rfl o131 rfl <| Ja ⟨rfl, rfl⟩, trivial⟩
         intro X hX; have hX : X ∈ ([[], [3], [2], [2, 3]] : List (List Nat)) := hX; simp only [List.mem_cons, List.not_mem_nil, or_false] at hX; rcases hX with rfl | rfl | rfl | rfl
         .intro vals w132 hT hVs hAp hCp q_ hq_; have hS := hS.grow hT; obtain rfl : q_ = 3 := hq_.trans (by decide +kernel); refine Jm 13 rfl <| JM 6 hS rfl Js o131 o123 rfl rfl ?_; intro w133 hS; refine Ja <| Jm 14 rfl ?_; obtain ⟨o134, hv⟩ := hv; refine Jg Jr Js (hS.mxdout (q := 6) rfl) rfl rfl o134 rfl <| Ja <| Jm 15 rfl <| JK 6 hS rfl Js o131 o123 rfl rfl ?_; intro w135 hS; refine Ja <| JL <| ⟨_, rfl, Fin.nil ?_⟩
          exact ⟨rfl, hv, hS⟩
         .intro vals w132 hT hVs hAp hCp q_ hq_; have hS := hS.grow hT; obtain rfl : q_ = 4 := hq_.trans (by decide +kernel); refine QD 3 13 rfl rfl ?_ ?_
          .refine Jl 1 0 XU3 hS rfl rfl rfl ⟨rfl, rfl⟩ <| Ja <| Jm 13 rfl <| JM 6 hS rfl Js o131 o123 rfl rfl ?_; intro w133 hS; refine Ja <| Jm 14 rfl ?_; obtain ⟨o134, hv⟩ := hv; refine Jg Jr Js (hS.mxdout (q := 6) rfl) rfl rfl o134 rfl <| Ja <| Jm 15 rfl <| JK 6 hS rfl Js o131 o123 rfl rfl ?_; intro w135 hS; refine Ja <| JL <| ⟨_, rfl, Fin.nil ?_⟩
           exact ⟨rfl, hv, hS⟩
          refine JM 6 hS rfl Js o131 o123 rfl rfl ?_; intro w133 hS; refine Ja <| Jm 3 rfl <| Jl 1 0 XU3 hS rfl rfl rfl ⟨rfl, rfl⟩ <| Ja <| Jm 14 rfl ?_; obtain ⟨o134, hv⟩ := hv; refine Jg Jr Js (hS.mxdout (q := 6) rfl) rfl rfl o134 rfl <| Ja <| Jm 15 rfl <| JK 6 hS rfl Js o131 o123 rfl rfl ?_; intro w135 hS; refine Ja <| JL <| ⟨_, rfl, Fin.nil ?_⟩
          exact ⟨rfl, hv, hS⟩
         .intro vals w132 hT hVs hAp hCp q_ hq_; have hS := hS.grow hT; obtain rfl : q_ = 4 := hq_.trans (by decide +kernel); refine QD 2 13 rfl rfl ?_ ?_
          .refine Jb 2 <| Jm 13 rfl <| JM 6 hS rfl Js o131 o123 rfl rfl ?_; intro w133 hS; refine Ja <| Jm 14 rfl ?_; obtain ⟨o134, hv⟩ := hv; refine Jg Jr Js (hS.mxdout (q := 6) rfl) rfl rfl o134 rfl <| Ja <| Jm 15 rfl <| JK 6 hS rfl Js o131 o123 rfl rfl ?_; intro w135 hS; refine Ja <| JL <| ⟨_, rfl, Fin.nil ?_⟩
           exact ⟨rfl, hv, hS⟩
          refine JM 6 hS rfl Js o131 o123 rfl rfl ?_; intro w133 hS; refine Ja <| Jm 2 rfl <| Jb 2 <| Jm 14 rfl ?_; obtain ⟨o134, hv⟩ := hv; refine Jg Jr Js (hS.mxdout (q := 6) rfl) rfl rfl o134 rfl <| Ja <| Jm 15 rfl <| JK 6 hS rfl Js o131 o123 rfl rfl ?_; intro w135 hS; refine Ja <| JL <| ⟨_, rfl, Fin.nil ?_⟩
          exact ⟨rfl, hv, hS⟩
         intro vals w132 hT hVs hAp hCp q_ hq_; have hS := hS.grow hT; obtain rfl : q_ = 5 := hq_.trans (by decide +kernel); refine Jsy 2 3 13 rfl rfl rfl ?_ ?_ ?_
         .refine Jb 2 <| QD 3 13 rfl rfl ?_ ?_
          .refine Jl 1 0 XU3 hS rfl rfl rfl ⟨rfl, rfl⟩ <| Ja <| Jm 13 rfl <| JM 6 hS rfl Js o131 o123 rfl rfl ?_; intro w133 hS; refine Ja <| Jm 14 rfl ?_; obtain ⟨o134, hv⟩ := hv; refine Jg Jr Js (hS.mxdout (q := 6) rfl) rfl rfl o134 rfl <| Ja <| Jm 15 rfl <| JK 6 hS rfl Js o131 o123 rfl rfl ?_; intro w135 hS; refine Ja <| JL <| ⟨_, rfl, Fin.nil ?_⟩
           exact ⟨rfl, hv, hS⟩
          refine JM 6 hS rfl Js o131 o123 rfl rfl ?_; intro w133 hS; refine Ja <| Jm 3 rfl <| Jl 1 0 XU3 hS rfl rfl rfl ⟨rfl, rfl⟩ <| Ja <| Jm 14 rfl ?_; obtain ⟨o134, hv⟩ := hv; refine Jg Jr Js (hS.mxdout (q := 6) rfl) rfl rfl o134 rfl <| Ja <| Jm 15 rfl <| JK 6 hS rfl Js o131 o123 rfl rfl ?_; intro w135 hS; refine Ja <| JL <| ⟨_, rfl, Fin.nil ?_⟩
          exact ⟨rfl, hv, hS⟩
         .refine Jl 1 0 XU3 hS rfl rfl rfl ⟨rfl, rfl⟩ <| Ja <| QD 2 13 rfl rfl ?_ ?_
          .refine Jb 2 <| Jm 13 rfl <| JM 6 hS rfl Js o131 o123 rfl rfl ?_; intro w133 hS; refine Ja <| Jm 14 rfl ?_; obtain ⟨o134, hv⟩ := hv; refine Jg Jr Js (hS.mxdout (q := 6) rfl) rfl rfl o134 rfl <| Ja <| Jm 15 rfl <| JK 6 hS rfl Js o131 o123 rfl rfl ?_; intro w135 hS; refine Ja <| JL <| ⟨_, rfl, Fin.nil ?_⟩
           exact ⟨rfl, hv, hS⟩
          refine JM 6 hS rfl Js o131 o123 rfl rfl ?_; intro w133 hS; refine Ja <| Jm 2 rfl <| Jb 2 <| Jm 14 rfl ?_; obtain ⟨o134, hv⟩ := hv; refine Jg Jr Js (hS.mxdout (q := 6) rfl) rfl rfl o134 rfl <| Ja <| Jm 15 rfl <| JK 6 hS rfl Js o131 o123 rfl rfl ?_; intro w135 hS; refine Ja <| JL <| ⟨_, rfl, Fin.nil ?_⟩
          exact ⟨rfl, hv, hS⟩
         refine JM 6 hS rfl Js o131 o123 rfl rfl ?_; intro w133 hS; refine Ja <| QD 2 3 rfl rfl ?_ ?_
         .refine Jb 2 <| Jm 3 rfl <| Jl 1 0 XU3 hS rfl rfl rfl ⟨rfl, rfl⟩ <| Ja <| Jm 14 rfl ?_; obtain ⟨o134, hv⟩ := hv; refine Jg Jr Js (hS.mxdout (q := 6) rfl) rfl rfl o134 rfl <| Ja <| Jm 15 rfl <| JK 6 hS rfl Js o131 o123 rfl rfl ?_; intro w135 hS; refine Ja <| JL <| ⟨_, rfl, Fin.nil ?_⟩
          exact ⟨rfl, hv, hS⟩
         refine Jl 1 0 XU3 hS rfl rfl rfl ⟨rfl, rfl⟩ <| Ja <| Jm 2 rfl <| Jb 2 <| Jm 14 rfl ?_; obtain ⟨o134, hv⟩ := hv; refine Jg Jr Js (hS.mxdout (q := 6) rfl) rfl rfl o134 rfl <| Ja <| Jm 15 rfl <| JK 6 hS rfl Js o131 o123 rfl rfl ?_; intro w135 hS; refine Ja <| JL <| ⟨_, rfl, Fin.nil ?_⟩
         exact ⟨rfl, hv, hS⟩
        rintro _ w94 ⟨rfl, hv, hS⟩; refine Ja <| Jd 2 <| Jl 3 0 Jr hS rfl rfl rfl ⟨rfl, rfl⟩ <| QV (vs := [nS Ay y ky]) (cs := [nP g75, nP g80]) (R := fun v1 w1 => v1 = .tuple #[] /\ (ZO Fg z55 (fun r93 => J89 (sll (sll x47 r79 (gl x47 (x51.length : Int))) (x51.length : Int) (gl x47 r79)) (sll (sll x49 r79 (gl x49 (x51.length : Int))) (x51.length : Int) (gl x49 r79)) r93)) /\ St X w0 mr w1 ((nV 3 g80 (nI r79)) :: (nV 3 g75 (nI (x51.length : Int))) :: (nR 3 A52 x51 k53) :: (nV 25 g15 (nS Ay y ky)) :: (nV 25 g13 (nS Au u ku)) :: (nV 50 g11 (.pointer (some ag))) :: (mx 22 3 Au u.length ku (up (up hs48 r79.toNat (hs48 (x51.length : Int).toNat)) (x51.length : Int).toNat (hs48 r79.toNat)) (sll (sll x47 r79 (gl x47 (x51.length : Int))) (x51.length : Int) (gl x47 r79))) :: (mx 22 3 Ay y.length ky (up (up hs50 r79.toNat (hs50 (x51.length : Int).toNat)) (x51.length : Int).toNat (hs50 r79.toNat)) (sll (sll x49 r79 (gl x49 (x51.length : Int))) (x51.length : Int) (gl x49 r79))) :: R0)) rfl Jnt rfl XN112 rfl rfl (Jh (vs := [nS Ay y ky, nP g75, nP g80]) [] Jnt rfl rfl rfl rfl ?_) ?_
        .obtain ⟨o103, hv⟩ := hv; obtain ⟨o108, hv⟩ := hv; obtain ⟨o111, hv⟩ := hv; have hS0 := hS; refine YB 13 [2, 3] (fun _ => false) (fun _ => none) (fun _ v u => u = v) [⟨[], [0], true⟩, ⟨[], [2], false⟩, ⟨[], [0], true⟩, ⟨[], [1], false⟩, ⟨[], [0], true⟩, ⟨[], [1], false⟩, ⟨[4, 5], [], true⟩, ⟨[6], [], false⟩, ⟨[], [0], true⟩, ⟨[], [2], false⟩, ⟨[8, 9], [], true⟩, ⟨[10], [], false⟩, ⟨[0, 1], [], true⟩] [.k 4 (nS Ay y ky), .k 5 (nI r79), .k 6 (nS Ay y ky), .k 7 (nI (x51.length : Int)), .k 8 (nS Ay y ky), .k 9 (nI (x51.length : Int)), .k 10 (.pointer (some ((JI Ay).add ((x51.length : Int).toNat)))), .k 11 (.slice ((hs50 (x51.length : Int).toNat).1) ((gl x49 (x51.length : Int)).length) ((hs50 (x51.length : Int).toNat).2)), .k 12 (nS Ay y ky), .k 13 (nI r79), .k 14 (.pointer (some ((JI Ay).add r79.toNat))), .k 15 (.slice ((hs50 r79.toNat).1) ((gl x49 r79).length) ((hs50 r79.toNat).2)), .k 16 (.pointer (some ((JI Ay).add r79.toNat)))] (fun _ => vbD) Try.mixed (by kernel_rfl) rfl rfl (fun _ _ _ _ _ _ _ h => h) ?_ ?_
         . refine ⟨oC, og hS fun _ _ hS => Jl 0 0 XU3 hS rfl rfl rfl ⟨rfl, rfl⟩ <| Ja ⟨rfl, Je _⟩, oC, og hS fun _ _ hS => Jl 1 0 XU3 hS rfl rfl rfl ⟨rfl, rfl⟩ <| Ja ⟨rfl, Je _⟩, oC, og hS fun _ _ hS => Jl 1 0 XU3 hS rfl rfl rfl ⟨rfl, rfl⟩ <| Ja ⟨rfl, Je _⟩, fun _ _ _ => JE 7 Jr Js hS rfl rfl rfl o103 rfl <| Ja ⟨rfl, rfl⟩, og hS fun _ _ hS => Jk Jn rfl rfl (hS.mxcell (i := 7) rfl o103) rfl <| Ja ⟨rfl, Je _⟩, oC, og hS fun _ _ hS => Jl 0 0 XU3 hS rfl rfl rfl ⟨rfl, rfl⟩ <| Ja ⟨rfl, Je _⟩, fun _ _ _ => JE 7 Jr Js hS rfl rfl rfl o108 rfl <| Ja ⟨rfl, rfl⟩, og hS fun _ _ hS => Jk Jn rfl rfl (hS.mxcell (i := 7) rfl o108) rfl <| Ja ⟨rfl, Je _⟩, fun _ _ _ => JE 7 Jr Js hS rfl rfl rfl o111 rfl <| Ja ⟨rfl, rfl⟩, trivial⟩
         intro X hX; have hX : X ∈ ([[], [3], [2], [2, 3]] : List (List Nat)) := hX; simp only [List.mem_cons, List.not_mem_nil, or_false] at hX; rcases hX with rfl | rfl | rfl | rfl
         .intro vals w112 hT hVs hAp hCp q_ hq_; have hS := hS.grow hT; obtain rfl : q_ = 3 := hq_.trans (by decide +kernel); refine Jm 13 rfl <| JM 7 hS rfl Js o111 o103 rfl rfl ?_; intro w113 hS; refine Ja <| Jm 14 rfl ?_; obtain ⟨o114, hv⟩ := hv; refine Jg Jr Js (hS.mxdout (q := 7) rfl) rfl rfl o114 rfl <| Ja <| Jm 15 rfl <| JK 7 hS rfl Js o111 o103 rfl rfl ?_; intro w115 hS; refine Ja <| JL <| ⟨_, rfl, Fin.nil ?_⟩
          exact ⟨rfl, hv, hS⟩
         .intro vals w112 hT hVs hAp hCp q_ hq_; have hS := hS.grow hT; obtain rfl : q_ = 4 := hq_.trans (by decide +kernel); refine QD 3 13 rfl rfl ?_ ?_
          .refine Jl 1 0 XU3 hS rfl rfl rfl ⟨rfl, rfl⟩ <| Ja <| Jm 13 rfl <| JM 7 hS rfl Js o111 o103 rfl rfl ?_; intro w113 hS; refine Ja <| Jm 14 rfl ?_; obtain ⟨o114, hv⟩ := hv; refine Jg Jr Js (hS.mxdout (q := 7) rfl) rfl rfl o114 rfl <| Ja <| Jm 15 rfl <| JK 7 hS rfl Js o111 o103 rfl rfl ?_; intro w115 hS; refine Ja <| JL <| ⟨_, rfl, Fin.nil ?_⟩
           exact ⟨rfl, hv, hS⟩
          refine JM 7 hS rfl Js o111 o103 rfl rfl ?_; intro w113 hS; refine Ja <| Jm 3 rfl <| Jl 1 0 XU3 hS rfl rfl rfl ⟨rfl, rfl⟩ <| Ja <| Jm 14 rfl ?_; obtain ⟨o114, hv⟩ := hv; refine Jg Jr Js (hS.mxdout (q := 7) rfl) rfl rfl o114 rfl <| Ja <| Jm 15 rfl <| JK 7 hS rfl Js o111 o103 rfl rfl ?_; intro w115 hS; refine Ja <| JL <| ⟨_, rfl, Fin.nil ?_⟩
          exact ⟨rfl, hv, hS⟩
         .intro vals w112 hT hVs hAp hCp q_ hq_; have hS := hS.grow hT; obtain rfl : q_ = 4 := hq_.trans (by decide +kernel); refine QD 2 13 rfl rfl ?_ ?_
          .refine Jb 2 <| Jm 13 rfl <| JM 7 hS rfl Js o111 o103 rfl rfl ?_; intro w113 hS; refine Ja <| Jm 14 rfl ?_; obtain ⟨o114, hv⟩ := hv; refine Jg Jr Js (hS.mxdout (q := 7) rfl) rfl rfl o114 rfl <| Ja <| Jm 15 rfl <| JK 7 hS rfl Js o111 o103 rfl rfl ?_; intro w115 hS; refine Ja <| JL <| ⟨_, rfl, Fin.nil ?_⟩
           exact ⟨rfl, hv, hS⟩
          refine JM 7 hS rfl Js o111 o103 rfl rfl ?_; intro w113 hS; refine Ja <| Jm 2 rfl <| Jb 2 <| Jm 14 rfl ?_; obtain ⟨o114, hv⟩ := hv; refine Jg Jr Js (hS.mxdout (q := 7) rfl) rfl rfl o114 rfl <| Ja <| Jm 15 rfl <| JK 7 hS rfl Js o111 o103 rfl rfl ?_; intro w115 hS; refine Ja <| JL <| ⟨_, rfl, Fin.nil ?_⟩
          exact ⟨rfl, hv, hS⟩
         intro vals w112 hT hVs hAp hCp q_ hq_; have hS := hS.grow hT; obtain rfl : q_ = 5 := hq_.trans (by decide +kernel); refine Jsy 2 3 13 rfl rfl rfl ?_ ?_ ?_
         .refine Jb 2 <| QD 3 13 rfl rfl ?_ ?_
          .refine Jl 1 0 XU3 hS rfl rfl rfl ⟨rfl, rfl⟩ <| Ja <| Jm 13 rfl <| JM 7 hS rfl Js o111 o103 rfl rfl ?_; intro w113 hS; refine Ja <| Jm 14 rfl ?_; obtain ⟨o114, hv⟩ := hv; refine Jg Jr Js (hS.mxdout (q := 7) rfl) rfl rfl o114 rfl <| Ja <| Jm 15 rfl <| JK 7 hS rfl Js o111 o103 rfl rfl ?_; intro w115 hS; refine Ja <| JL <| ⟨_, rfl, Fin.nil ?_⟩
           exact ⟨rfl, hv, hS⟩
          refine JM 7 hS rfl Js o111 o103 rfl rfl ?_; intro w113 hS; refine Ja <| Jm 3 rfl <| Jl 1 0 XU3 hS rfl rfl rfl ⟨rfl, rfl⟩ <| Ja <| Jm 14 rfl ?_; obtain ⟨o114, hv⟩ := hv; refine Jg Jr Js (hS.mxdout (q := 7) rfl) rfl rfl o114 rfl <| Ja <| Jm 15 rfl <| JK 7 hS rfl Js o111 o103 rfl rfl ?_; intro w115 hS; refine Ja <| JL <| ⟨_, rfl, Fin.nil ?_⟩
          exact ⟨rfl, hv, hS⟩
         .refine Jl 1 0 XU3 hS rfl rfl rfl ⟨rfl, rfl⟩ <| Ja <| QD 2 13 rfl rfl ?_ ?_
          .refine Jb 2 <| Jm 13 rfl <| JM 7 hS rfl Js o111 o103 rfl rfl ?_; intro w113 hS; refine Ja <| Jm 14 rfl ?_; obtain ⟨o114, hv⟩ := hv; refine Jg Jr Js (hS.mxdout (q := 7) rfl) rfl rfl o114 rfl <| Ja <| Jm 15 rfl <| JK 7 hS rfl Js o111 o103 rfl rfl ?_; intro w115 hS; refine Ja <| JL <| ⟨_, rfl, Fin.nil ?_⟩
           exact ⟨rfl, hv, hS⟩
          refine JM 7 hS rfl Js o111 o103 rfl rfl ?_; intro w113 hS; refine Ja <| Jm 2 rfl <| Jb 2 <| Jm 14 rfl ?_; obtain ⟨o114, hv⟩ := hv; refine Jg Jr Js (hS.mxdout (q := 7) rfl) rfl rfl o114 rfl <| Ja <| Jm 15 rfl <| JK 7 hS rfl Js o111 o103 rfl rfl ?_; intro w115 hS; refine Ja <| JL <| ⟨_, rfl, Fin.nil ?_⟩
          exact ⟨rfl, hv, hS⟩
         refine JM 7 hS rfl Js o111 o103 rfl rfl ?_; intro w113 hS; refine Ja <| QD 2 3 rfl rfl ?_ ?_
         .refine Jb 2 <| Jm 3 rfl <| Jl 1 0 XU3 hS rfl rfl rfl ⟨rfl, rfl⟩ <| Ja <| Jm 14 rfl ?_; obtain ⟨o114, hv⟩ := hv; refine Jg Jr Js (hS.mxdout (q := 7) rfl) rfl rfl o114 rfl <| Ja <| Jm 15 rfl <| JK 7 hS rfl Js o111 o103 rfl rfl ?_; intro w115 hS; refine Ja <| JL <| ⟨_, rfl, Fin.nil ?_⟩
          exact ⟨rfl, hv, hS⟩
         refine Jl 1 0 XU3 hS rfl rfl rfl ⟨rfl, rfl⟩ <| Ja <| Jm 2 rfl <| Jb 2 <| Jm 14 rfl ?_; obtain ⟨o114, hv⟩ := hv; refine Jg Jr Js (hS.mxdout (q := 7) rfl) rfl rfl o114 rfl <| Ja <| Jm 15 rfl <| JK 7 hS rfl Js o111 o103 rfl rfl ?_; intro w115 hS; refine Ja <| JL <| ⟨_, rfl, Fin.nil ?_⟩
         exact ⟨rfl, hv, hS⟩
        rintro _ w95 ⟨rfl, hv, hS⟩; refine Ja <| ⟨_, rfl, Fin.nil ?_⟩
        exact ⟨rfl, hv, hS⟩
       rintro _ w91 ⟨rfl, hv, hS⟩; refine Ja <| JD <| Jl 5 0 Jdp hS rfl rfl rfl ⟨rfl, rfl⟩ <| Jo rfl rfl <| SL.call hS (Jre (hfgg _ [nV 3 g80 (nI r79), nV 3 g75 (nI (x51.length : Int)), nR 3 A52 x51 k53, nV 25 g15 (nS Ay y ky), nV 25 g13 (nS Au u ku), nV 50 g11 (.pointer (some ag)), mx 22 3 Au u.length ku (up (up hs48 r79.toNat (hs48 (x51.length : Int).toNat)) (x51.length : Int).toNat (hs48 r79.toNat)) (sll (sll x47 r79 (gl x47 (x51.length : Int))) (x51.length : Int) (gl x47 r79)), mx 22 3 Ay y.length ky (up (up hs50 r79.toNat (hs50 (x51.length : Int).toNat)) (x51.length : Int).toNat (hs50 r79.toNat)) (sll (sll x49 r79 (gl x49 (x51.length : Int))) (x51.length : Int) (gl x49 r79))] hS).1 hv) Jss rfl XN113 rfl rfl ?_; rintro _ _ w92 ⟨r93, rfl, rfl, hv⟩ hGw92 hS; have hS := hS.n0; refine Jb 2 ?_; exact ⟨(sll (sll x47 r79 (gl x47 (x51.length : Int))) (x51.length : Int) (gl x47 r79), sll (sll x49 r79 (gl x49 (x51.length : Int))) (x51.length : Int) (gl x49 r79), r93, (up (up hs48 r79.toNat (hs48 (x51.length : Int).toNat)) (x51.length : Int).toNat (hs48 r79.toNat)), (up (up hs50 r79.toNat (hs50 (x51.length : Int).toNat)) (x51.length : Int).toNat (hs50 r79.toNat))), sp rfl, rfl, hv, hS⟩
      have hv := hv.2 (oF c90); refine Jj ?_; exact ⟨(x47, x49, z55, hs48, hs50), sp rfl, rfl, hv, hS⟩
     rintro ⟨x84, x86, z88, hs85, hs87⟩ w136 ⟨hv, hS⟩; have hv := hk351 x84 x86 z88 hv; refine Jv ?_; obtain ⟨o142, hv⟩ := hv; obtain ⟨o146, hv⟩ := hv; obtain ⟨r149, o151, hv⟩ := hv; refine JP 11 [⟨[], [4], false⟩, ⟨[], [9], true⟩, ⟨[], [6], false⟩, ⟨[], [12], false⟩, ⟨[2, 3], [], true⟩, ⟨[4], [], false⟩, ⟨[], [11], true⟩, ⟨[5, 6], [], true⟩, ⟨[7], [], false⟩, ⟨[0, 1, 8], [], false⟩, ⟨[9], [], true⟩] [(50, .pointer (some ag)), (51, nI z88), (52, nS Au u ku), (53, nI (x51.length : Int)), (54, .pointer (some ((JI Au).add ((x51.length : Int).toNat)))), (55, .slice ((hs85 (x51.length : Int).toNat).1) ((gl x84 (x51.length : Int)).length) ((hs85 (x51.length : Int).toNat).2)), (56, nI z56), (57, .pointer (some ((JI ((hs85 (x51.length : Int).toNat).1)).add z56.toNat))), (58, nI (gi (gl x84 (x51.length : Int)) z56)), (59, nI r149), (9, nI r149)] Try.mixed (by kernel_rfl) rfl rfl ?_ ?_
     . refine ⟨og hS fun _ _ hS => Jl 5 0 Jdp hS rfl rfl rfl ⟨rfl, rfl⟩ <| Ja ⟨rfl, Je _⟩, oD, og hS fun _ _ hS => Jl 4 0 Jr hS rfl rfl rfl ⟨rfl, rfl⟩ <| Ja ⟨rfl, Je _⟩, og hS fun _ _ hS => Jl 1 0 XU3 hS rfl rfl rfl ⟨rfl, rfl⟩ <| Ja ⟨rfl, Je _⟩, fun _ _ _ => JE 6 Jr Js hS rfl rfl rfl o142 rfl <| Ja ⟨rfl, rfl⟩, og hS fun _ _ hS => Jk Jn rfl rfl (hS.mxcell (i := 6) rfl o142) rfl <| Ja ⟨rfl, Je _⟩, oD, fun _ _ _ => Jg Jn XE3 (hS.mxrd (i := 6) rfl o142) rfl rfl o146 rfl <| Ja ⟨rfl, rfl⟩, og hS fun _ _ hS => Jk XU3 rfl rfl (JH (hS.mxrd (i := 6) rfl o142) o146) rfl <| Ja ⟨rfl, Je _⟩, ?_, oD, trivial⟩; intro w148 hE RR; have hS := hS.grow (hE rfl); refine WL.call XF76 rfl XN76 rfl rfl (JO (Jhq (hfgg _ [nV 3 g80 (nI r79), nV 3 g75 (nI (x51.length : Int)), nR 3 A52 x51 k53, nV 25 g15 (nS Ay y ky), nV 25 g13 (nS Au u ku), nV 50 g11 (.pointer (some ag)), mx 22 3 Au u.length ku hs85 x84, mx 22 3 Ay y.length ky hs87 x86] hS).1 o151)) ?_; rintro _ w150 ⟨_, hGw150, hRww150, hNww150, r149q, rfl, rfl, he⟩; subst he; exact Ja ⟨rfl, hGw150⟩
     intro w153 hT; have hS := hS.grow hT; refine JL <| Jv ?_; obtain ⟨J156, hv, hk350⟩ := hv; refine Qq (σ := Int × Nat) (fun q w1 => match q with | (z155, g154) => J156 z155 /\ St X w0 mr w1 ((nV 3 g154 (nI z155)) :: (nV 3 g80 (nI r79)) :: (nV 3 g75 (nI (x51.length : Int))) :: (nR 3 A52 x51 k53) :: (nV 25 g15 (nS Ay y ky)) :: (nV 25 g13 (nS Au u ku)) :: (nV 50 g11 (.pointer (some ag))) :: (mx 22 3 Au u.length ku hs85 x84) :: (mx 22 3 Ay y.length ky hs87 x86) :: R0)) (fun (z155, g154) => [(1, nI cols), (4, nP g11), (6, nP g13), (8, nS A52 x51 k53), (9, nI r149), (10, .func (.func 110) #[] #[nP g13, nP g15]), (11, nI z56), (12, nP g75), (13, nP g80), (14, nP g154), (28, .bool (decide ((x51.length : Int) < (u.length : Int)))), (40, .bool (decide (r79 = (u.length : Int)))), (43, .bool (decide (r79 ≠ (x51.length : Int))))]) ?_ ?_
     .obtain ⟨o161, hv⟩ := hv; obtain ⟨o165, hv⟩ := hv; obtain ⟨r168, r169, o171, hv⟩ := hv; have hS0 := hS; refine YB 13 [11] (fun iA => [false, false, false, false, false, false, false, false, false, false, false, false, true].getD iA false) (fun _ => none) (fun _ v u => u = v) [⟨[], [4], false⟩, ⟨[], [6], false⟩, ⟨[], [12], false⟩, ⟨[1, 2], [], true⟩, ⟨[3], [], false⟩, ⟨[], [11], true⟩, ⟨[4, 5], [], true⟩, ⟨[6], [], false⟩, ⟨[0, 7], [], false⟩, ⟨[8], [], true⟩, ⟨[9], [], true⟩, ⟨[9], [], true⟩, ⟨[], [], false⟩] [.k 61 (.pointer (some ag)), .k 62 (nS Au u ku), .k 63 (nI (x51.length : Int)), .k 64 (.pointer (some ((JI Au).add ((x51.length : Int).toNat)))), .k 65 (.slice ((hs85 (x51.length : Int).toNat).1) ((gl x84 (x51.length : Int)).length) ((hs85 (x51.length : Int).toNat).2)), .k 66 (nI z56), .k 67 (.pointer (some ((JI ((hs85 (x51.length : Int).toNat).1)).add z56.toNat))), .k 68 (nI (gi (gl x84 (x51.length : Int)) z56)), .k 69 (.tuple #[nI r168, nI r169]), .k 60 (.tuple #[nI r168, nI r169]), .k 70 (nI r168), .k 71 (nI r169), .m 14 (fun v wQ => ∃ g176_12, v = nP g176_12 /\ Own 0 wQ 3 1 (nA g176_12) 1 1 [nI 0] /\ (∀ g, bl (nA g176_12) = some g -> w153.heap.size <= g)) fun _ _ _ ⟨g176_12, hQe, hO178_12, hN179_12⟩ hQ2 => ⟨g176_12, hQe, hO178_12.ext hQ2, hN179_12⟩] (fun _ => vbD) Try.mixed (by kernel_rfl) rfl rfl (fun _ _ _ _ _ _ _ h => h) ?_ ?_
      . refine ⟨og hS fun _ _ hS => Jl 5 0 Jdp hS rfl rfl rfl ⟨rfl, rfl⟩ <| Ja ⟨rfl, Je _⟩, og hS fun _ _ hS => Jl 4 0 Jr hS rfl rfl rfl ⟨rfl, rfl⟩ <| Ja ⟨rfl, Je _⟩, og hS fun _ _ hS => Jl 1 0 XU3 hS rfl rfl rfl ⟨rfl, rfl⟩ <| Ja ⟨rfl, Je _⟩, fun _ _ _ => JE 6 Jr Js hS rfl rfl rfl o161 rfl <| Ja ⟨rfl, rfl⟩, og hS fun _ _ hS => Jk Jn rfl rfl (hS.mxcell (i := 6) rfl o161) rfl <| Ja ⟨rfl, Je _⟩, oC, fun _ _ _ => Jg Jn XE3 (hS.mxrd (i := 6) rfl o161) rfl rfl o165 rfl <| Ja ⟨rfl, rfl⟩, og hS fun _ _ hS => Jk XU3 rfl rfl (JH (hS.mxrd (i := 6) rfl o161) o165) rfl <| Ja ⟨rfl, Je _⟩, ?_, oC, oC, oC, ?_, trivial⟩
        . intro w167 hE; have hS := hS.grow (hE rfl); intro RR; refine WL.call XF114 rfl XN114 rfl rfl (JO (ok_Inv (hfgg _ [nV 3 g80 (nI r79), nV 3 g75 (nI (x51.length : Int)), nR 3 A52 x51 k53, nV 25 g15 (nS Ay y ky), nV 25 g13 (nS Au u ku), nV 50 g11 (.pointer (some ag)), mx 22 3 Au u.length ku hs85 x84, mx 22 3 Ay y.length ky hs87 x86] hS).1 o171)) ?_; rintro _ w170 ⟨_, hGw170, hRww170, hNww170, r168q, r169q, rfl, rfl, he⟩; cases he; exact Ja ⟨rfl, hGw170⟩
        intro w175 hE; have hE := hE rfl; have hS := hS.grow hE; intro RR; refine WL.alloc XE3 rfl ?_; intro g176 w177 hg176 hO178 hGw177; have hN179 : ∀ g2, bl (some ⟨g176, 0, none⟩) = some g2 -> _ <= g2 := fun g2 e => by cases e; rw [hg176]; exact hE.size
        have hO178 := Own.low (b' := 0) hO178 (Nat.zero_le _); exact Ja ⟨_, rfl, hGw177, ⟨g176, rfl, hO178, hN179⟩, (fun _ => fun g2 hg2 => by cases hg2; exact ⟨Nat.le_of_eq hg176.symm, (hO178.bl_ge _ rfl).2⟩), (fun j h => by cases h)⟩
      intro X hX; have hX : X ∈ ([[], [11]] : List (List Nat)) := hX; simp only [List.mem_cons, List.not_mem_nil, or_false] at hX; rcases hX with rfl | rfl
      .intro vals w180 hT hVs hAp hCp q_ hq_; have hS := hS.grow hT; obtain rfl : q_ = 2 := hq_.trans (by decide +kernel); obtain ⟨g176_12, hv12, hO178_12, hN179_12⟩ := hVs 12 (by decide) (by decide); have hS := Qd [] hS0 hS hO178_12 hN179_12 (fun s hs => by cases hs); refine YL [(12, nP g176_12)] ⟨hv12, trivial⟩ <| Jm 13 rfl <| JG (cs' := [nI r168]) 0 0 hS rfl XE3 rfl rfl rfl (QT rfl) rfl ?_; intro w182 hS; refine Ja <| Jm 14 rfl <| Jb 2 <| JL ?_; exact ⟨(r168, g176_12), sp rfl, rfl, hv, hS⟩
      intro vals w180 hT hVs hAp hCp q_ hq_; have hS := hS.grow hT; obtain rfl : q_ = 3 := hq_.trans (by decide +kernel); obtain ⟨g176_12, hv12, hO178_12, hN179_12⟩ := hVs 12 (by decide) (by decide); have hS := Qd [] hS0 hS hO178_12 hN179_12 (fun s hs => by cases hs); refine YL [(12, nP g176_12)] ⟨hv12, trivial⟩ <| QD 11 13 rfl rfl ?_ ?_
      .refine Jb 2 <| Jm 13 rfl <| JG (cs' := [nI r168]) 0 0 hS rfl XE3 rfl rfl rfl (QT rfl) rfl ?_; intro w182 hS; refine Ja <| Jm 14 rfl <| Jb 2 <| JL ?_; exact ⟨(r168, g176_12), sp rfl, rfl, hv, hS⟩
      refine JG (cs' := [nI r168]) 0 0 hS rfl XE3 rfl rfl rfl (QT rfl) rfl ?_; intro w182 hS; refine Ja <| Jm 11 rfl <| Jb 2 <| Jm 14 rfl <| Jb 2 <| JL ?_; exact ⟨(r168, g176_12), sp rfl, rfl, hv, hS⟩
     rintro ⟨z155, g154⟩ w183 ⟨hv, hS⟩; have hv := hk350 z155 hv; refine Jd 3 <| QK (vs := [nP g11, nP g154, nP g75]) rfl rfl <| QV (vs := [.func (.func 115) #[] #[nP g11, nP g154, nP g75]]) (cs := [nP g13, nP g15]) (R := fun v1 w1 => ∃ (x184 : LL) (x186 : LL) (hs185 : Hs) (hs187 : Hs), v1 = .tuple #[] /\ (∃ (I204 : LL -> LL -> Int -> Prop) (μ205 : LL -> LL -> Int -> Nat), I204 x184 x186 (0 : Int) /\ ∀ (x199 : LL) (x201 : LL) (z203 : Int), (I204 x199 x201 z203 -> (((z203 < (u.length : Int)) -> (∃ J215 : LL -> LL -> Int -> Prop, ((0 <= z203 /\ z203 < (u.length : Nat)) /\ ((0 <= z56 /\ z56 < ((gl x199 z203).length : Nat)) /\ (∃ (r230 : Int), ZO Fg (gi (gl x199 z203) z56) (fun q => q = r230) /\ (((z203 ≠ (x51.length : Int)) -> ((0 <= z203 /\ z203 < (u.length : Nat)) /\ ((0 <= (x51.length : Int) /\ (x51.length : Int) < (u.length : Nat)) /\ (((x51.length : Int).toNat ≠ z203.toNat) /\ (J1 Fg (gl x199 z203) r230 (gl x199 (x51.length : Int)) (fun x288 => (fun (x247 : LL) => (0 <= z203 /\ z203 < (y.length : Nat)) /\ ((0 <= (x51.length : Int) /\ (x51.length : Int) < (y.length : Nat)) /\ (((x51.length : Int).toNat ≠ z203.toNat) /\ (J1 Fg (gl x201 z203) r230 (gl x201 (x51.length : Int)) (fun x270 => (fun (x250 : LL) => (fun (x242 : LL) (x244 : LL) => J215 x242 x244 r230) x247 x250) (sll x201 z203 x270)))))) (sll x199 z203 x288))))))) /\ (¬ (z203 ≠ (x51.length : Int)) -> J215 x199 x201 r230))))) /\ ∀ (x208 : LL) (x210 : LL) (z214 : Int), (J215 x208 x210 z214 -> ((I64 (z203 + 1)) /\ (I204 x208 x210 (z203 + 1) /\ μ205 x208 x210 (z203 + 1) < μ205 x199 x201 z203))))) /\ (¬ (z203 < (u.length : Int)) -> ((((x51.length : Nat) + (1 : Nat) : Int) * 8 <= 140737488355328) /\ (J74 (x51 ++ ([z56] : LI)) x199 x201 r149 r79 (decide (r79 = (u.length : Int))))))))) /\ St X w0 mr w1 ((nV 3 g154 (nI z155)) :: (nV 3 g80 (nI r79)) :: (nV 3 g75 (nI (x51.length : Int))) :: (nR 3 A52 x51 k53) :: (nV 25 g15 (nS Ay y ky)) :: (nV 25 g13 (nS Au u ku)) :: (nV 50 g11 (.pointer (some ag))) :: (mx 22 3 Au u.length ku hs185 x184) :: (mx 22 3 Ay y.length ky hs187 x186) :: R0)) rfl Jgo rfl Jsn rfl rfl (Jh (vs := [.func (.func 115) #[] #[nP g11, nP g154, nP g75], nP g13, nP g15]) [] Jgo rfl rfl rfl rfl ?_) ?_
     .refine Jv ?_; refine Jd 2 <| Jl 5 0 Jr hS rfl rfl rfl ⟨rfl, rfl⟩ <| QV (vs := [nS Au u ku]) (cs := [nP g11, nP g154, nP g75]) (R := fun v1 w1 => ∃ (x300 : LL) (hs301 : Hs), v1 = .tuple #[] /\ ((0 <= (x51.length : Int) /\ (x51.length : Int) < (y.length : Nat)) /\ (∃ (x316 : LI), Y9 Fg z155 (gl x86 (x51.length : Int)) (fun q => q = x316) /\ ((0 <= (x51.length : Int) /\ (x51.length : Int) < (y.length : Nat)) /\ ((fun (x303 : LL) => (fun (x184 : LL) (x186 : LL) => ∃ (I204 : LL -> LL -> Int -> Prop) (μ205 : LL -> LL -> Int -> Nat), I204 x184 x186 (0 : Int) /\ ∀ (x199 : LL) (x201 : LL) (z203 : Int), (I204 x199 x201 z203 -> (((z203 < (u.length : Int)) -> (∃ J215 : LL -> LL -> Int -> Prop, ((0 <= z203 /\ z203 < (u.length : Nat)) /\ ((0 <= z56 /\ z56 < ((gl x199 z203).length : Nat)) /\ (∃ (r230 : Int), ZO Fg (gi (gl x199 z203) z56) (fun q => q = r230) /\ (((z203 ≠ (x51.length : Int)) -> ((0 <= z203 /\ z203 < (u.length : Nat)) /\ ((0 <= (x51.length : Int) /\ (x51.length : Int) < (u.length : Nat)) /\ (((x51.length : Int).toNat ≠ z203.toNat) /\ (J1 Fg (gl x199 z203) r230 (gl x199 (x51.length : Int)) (fun x288 => (fun (x247 : LL) => (0 <= z203 /\ z203 < (y.length : Nat)) /\ ((0 <= (x51.length : Int) /\ (x51.length : Int) < (y.length : Nat)) /\ (((x51.length : Int).toNat ≠ z203.toNat) /\ (J1 Fg (gl x201 z203) r230 (gl x201 (x51.length : Int)) (fun x270 => (fun (x250 : LL) => (fun (x242 : LL) (x244 : LL) => J215 x242 x244 r230) x247 x250) (sll x201 z203 x270)))))) (sll x199 z203 x288))))))) /\ (¬ (z203 ≠ (x51.length : Int)) -> J215 x199 x201 r230))))) /\ ∀ (x208 : LL) (x210 : LL) (z214 : Int), (J215 x208 x210 z214 -> ((I64 (z203 + 1)) /\ (I204 x208 x210 (z203 + 1) /\ μ205 x208 x210 (z203 + 1) < μ205 x199 x201 z203))))) /\ (¬ (z203 < (u.length : Int)) -> ((((x51.length : Nat) + (1 : Nat) : Int) * 8 <= 140737488355328) /\ (J74 (x51 ++ ([z56] : LI)) x199 x201 r149 r79 (decide (r79 = (u.length : Int))))))))) x300 x303) (sll x86 (x51.length : Int) x316))))) /\ St X w0 mr w1 ((nV 3 g154 (nI z155)) :: (nV 3 g80 (nI r79)) :: (nV 3 g75 (nI (x51.length : Int))) :: (nR 3 A52 x51 k53) :: (nV 25 g15 (nS Ay y ky)) :: (nV 25 g13 (nS Au u ku)) :: (nV 50 g11 (.pointer (some ag))) :: (mx 22 3 Au u.length ku hs301 x300) :: (mx 22 3 Ay y.length ky hs87 x86) :: R0)) rfl Jns rfl XN115 rfl rfl (Jh (vs := [nS Au u ku, nP g11, nP g154, nP g75]) [] Jns rfl rfl rfl rfl ?_) ?_
      .obtain ⟨o335, hv⟩ := hv; obtain ⟨x338, o345, hv⟩ := hv; have hS0 := hS; refine QL 9 (fun iA => [false, false, false, false, false, false, false, false, true].getD iA false) (fun _ => none) (fun _ v u => u = v) [⟨[], [0], true⟩, ⟨[], [3], false⟩, ⟨[], [1], false⟩, ⟨[], [2], false⟩, ⟨[], [0], true⟩, ⟨[], [3], false⟩, ⟨[4, 5], [], true⟩, ⟨[6], [], false⟩, ⟨[2, 3, 7], [], false⟩] [.k 5 (nS Au u ku), .k 6 (nI (x51.length : Int)), .k 7 (.pointer (some ag)), .k 8 (nI z155), .k 9 (nS Au u ku), .k 10 (nI (x51.length : Int)), .k 11 (.pointer (some ((JI Au).add ((x51.length : Int).toNat)))), .k 12 (.slice ((hs85 (x51.length : Int).toNat).1) ((gl x84 (x51.length : Int)).length) ((hs85 (x51.length : Int).toNat).2)), eS w183 13 3 x338.length (is x338)] (fun _ => vbD) Try.mixed (by kernel_rfl) rfl rfl (fun _ _ _ _ _ _ _ h => h) ?_ ?_
       . refine ⟨oC, og hS fun _ _ hS => Jl 2 0 XU3 hS rfl rfl rfl ⟨rfl, rfl⟩ <| Ja ⟨rfl, Je _⟩, og hS fun _ _ hS => Jl 6 0 Jdp hS rfl rfl rfl ⟨rfl, rfl⟩ <| Ja ⟨rfl, Je _⟩, og hS fun _ _ hS => Jl 0 0 XU3 hS rfl rfl rfl ⟨rfl, rfl⟩ <| Ja ⟨rfl, Je _⟩, oC, og hS fun _ _ hS => Jl 2 0 XU3 hS rfl rfl rfl ⟨rfl, rfl⟩ <| Ja ⟨rfl, Je _⟩, fun _ _ _ => JE 7 Jr Js hS rfl rfl rfl o335 rfl <| Ja ⟨rfl, rfl⟩, og hS fun _ _ hS => Jk Jn rfl rfl (hS.mxcell (i := 7) rfl o335) rfl <| Ja ⟨rfl, Je _⟩, ?_, trivial⟩; intro w337 hE; have hE := hE rfl; have hS := hS.grow hE; intro RR; refine WL.call XF52 rfl XN52 rfl rfl (JO (Je1 (hfgg _ [nV 3 g154 (nI z155), nV 3 g80 (nI r79), nV 3 g75 (nI (x51.length : Int)), nR 3 A52 x51 k53, nV 25 g15 (nS Ay y ky), nV 25 g13 (nS Au u ku), nV 50 g11 (.pointer (some ag)), mx 22 3 Au u.length ku hs85 x84, mx 22 3 Ay y.length ky hs87 x86] hS).1 (hS.mxrd (i := 7) rfl o335) o345)) ?_; rintro _ w342 ⟨_, hGw342, hRww342, hNww342, x338q, A339, k340, rfl, rfl, he⟩; subst he; have hO343 := (hRww342.get (i := 0) rfl).1; have hN344 : ∀ g, bl A339 = some g -> _ <= g := fun g hg => Nat.le_trans hE.size (hNww342.1 g hg); exact Ja ⟨_, rfl, hGw342, ⟨A339, k340, rfl, hO343, hN344⟩, (fun _ => fun g hg => ⟨hNww342.1 g hg, (hO343.bl_ge g hg).2⟩), (fun j h => by cases h)⟩
       intro vals w346 hT hVs hAp hCp; have hS := hS.grow hT; obtain ⟨A339_8, k340_8, hv8, hO343_8, hN344_8⟩ := hVs 8 (by decide); have hS := Qd [] hS0 hS hO343_8 hN344_8 (fun s hs => by cases hs); refine YL [(8, nS A339_8 x338 k340_8)] ⟨hv8, trivial⟩ <| Jm 9 rfl ?_; obtain ⟨o348, hv⟩ := hv; refine JE 8 Jr Js hS rfl rfl rfl o348 rfl <| Ja <| Jm 10 rfl ?_; have hS := hS.pickN 10 [0, 8, 1, 2, 3, 4, 5, 6, 7, 9] rfl
       change St _ _ _ _ (_ :: _ :: _ :: _ :: _ :: _ :: _ :: _ :: _ :: _ :: R0) at hS
       refine Zr hS Js o348 (hS.rd (i := 0) rfl).ilen.symm rfl rfl ?_; intro w349 hS; refine Ja <| JL ?_; have hS := hS.pickN 9 [1, 2, 3, 4, 5, 6, 7, 0, 8] rfl; refine ⟨_, rfl, Fin.nil ?_⟩; exact ⟨sll x84 (x51.length : Int) x338, (up hs85 (x51.length : Int).toNat (A339_8, k340_8)), rfl, hv, hS⟩
      rintro _ w302 ⟨x300, hs301, rfl, hv, hS⟩; refine Ja <| Jd 2 <| Jl 4 0 Jr hS rfl rfl rfl ⟨rfl, rfl⟩ <| QV (vs := [nS Ay y ky]) (cs := [nP g11, nP g154, nP g75]) (R := fun v1 w1 => ∃ (x303 : LL) (hs304 : Hs), v1 = .tuple #[] /\ ((fun (x184 : LL) (x186 : LL) => ∃ (I204 : LL -> LL -> Int -> Prop) (μ205 : LL -> LL -> Int -> Nat), I204 x184 x186 (0 : Int) /\ ∀ (x199 : LL) (x201 : LL) (z203 : Int), (I204 x199 x201 z203 -> (((z203 < (u.length : Int)) -> (∃ J215 : LL -> LL -> Int -> Prop, ((0 <= z203 /\ z203 < (u.length : Nat)) /\ ((0 <= z56 /\ z56 < ((gl x199 z203).length : Nat)) /\ (∃ (r230 : Int), ZO Fg (gi (gl x199 z203) z56) (fun q => q = r230) /\ (((z203 ≠ (x51.length : Int)) -> ((0 <= z203 /\ z203 < (u.length : Nat)) /\ ((0 <= (x51.length : Int) /\ (x51.length : Int) < (u.length : Nat)) /\ (((x51.length : Int).toNat ≠ z203.toNat) /\ (J1 Fg (gl x199 z203) r230 (gl x199 (x51.length : Int)) (fun x288 => (fun (x247 : LL) => (0 <= z203 /\ z203 < (y.length : Nat)) /\ ((0 <= (x51.length : Int) /\ (x51.length : Int) < (y.length : Nat)) /\ (((x51.length : Int).toNat ≠ z203.toNat) /\ (J1 Fg (gl x201 z203) r230 (gl x201 (x51.length : Int)) (fun x270 => (fun (x250 : LL) => (fun (x242 : LL) (x244 : LL) => J215 x242 x244 r230) x247 x250) (sll x201 z203 x270)))))) (sll x199 z203 x288))))))) /\ (¬ (z203 ≠ (x51.length : Int)) -> J215 x199 x201 r230))))) /\ ∀ (x208 : LL) (x210 : LL) (z214 : Int), (J215 x208 x210 z214 -> ((I64 (z203 + 1)) /\ (I204 x208 x210 (z203 + 1) /\ μ205 x208 x210 (z203 + 1) < μ205 x199 x201 z203))))) /\ (¬ (z203 < (u.length : Int)) -> ((((x51.length : Nat) + (1 : Nat) : Int) * 8 <= 140737488355328) /\ (J74 (x51 ++ ([z56] : LI)) x199 x201 r149 r79 (decide (r79 = (u.length : Int))))))))) x300 x303) /\ St X w0 mr w1 ((nV 3 g154 (nI z155)) :: (nV 3 g80 (nI r79)) :: (nV 3 g75 (nI (x51.length : Int))) :: (nR 3 A52 x51 k53) :: (nV 25 g15 (nS Ay y ky)) :: (nV 25 g13 (nS Au u ku)) :: (nV 50 g11 (.pointer (some ag))) :: (mx 22 3 Au u.length ku hs301 x300) :: (mx 22 3 Ay y.length ky hs304 x303) :: R0)) rfl Jns rfl XN115 rfl rfl (Jh (vs := [nS Ay y ky, nP g11, nP g154, nP g75]) [] Jns rfl rfl rfl rfl ?_) ?_
      .obtain ⟨o313, hv⟩ := hv; obtain ⟨x316, o323, hv⟩ := hv; have hS0 := hS; refine QL 9 (fun iA => [false, false, false, false, false, false, false, false, true].getD iA false) (fun _ => none) (fun _ v u => u = v) [⟨[], [0], true⟩, ⟨[], [3], false⟩, ⟨[], [1], false⟩, ⟨[], [2], false⟩, ⟨[], [0], true⟩, ⟨[], [3], false⟩, ⟨[4, 5], [], true⟩, ⟨[6], [], false⟩, ⟨[2, 3, 7], [], false⟩] [.k 5 (nS Ay y ky), .k 6 (nI (x51.length : Int)), .k 7 (.pointer (some ag)), .k 8 (nI z155), .k 9 (nS Ay y ky), .k 10 (nI (x51.length : Int)), .k 11 (.pointer (some ((JI Ay).add ((x51.length : Int).toNat)))), .k 12 (.slice ((hs87 (x51.length : Int).toNat).1) ((gl x86 (x51.length : Int)).length) ((hs87 (x51.length : Int).toNat).2)), eS w302 13 3 x316.length (is x316)] (fun _ => vbD) Try.mixed (by kernel_rfl) rfl rfl (fun _ _ _ _ _ _ _ h => h) ?_ ?_
       . refine ⟨oC, og hS fun _ _ hS => Jl 2 0 XU3 hS rfl rfl rfl ⟨rfl, rfl⟩ <| Ja ⟨rfl, Je _⟩, og hS fun _ _ hS => Jl 6 0 Jdp hS rfl rfl rfl ⟨rfl, rfl⟩ <| Ja ⟨rfl, Je _⟩, og hS fun _ _ hS => Jl 0 0 XU3 hS rfl rfl rfl ⟨rfl, rfl⟩ <| Ja ⟨rfl, Je _⟩, oC, og hS fun _ _ hS => Jl 2 0 XU3 hS rfl rfl rfl ⟨rfl, rfl⟩ <| Ja ⟨rfl, Je _⟩, fun _ _ _ => JE 8 Jr Js hS rfl rfl rfl o313 rfl <| Ja ⟨rfl, rfl⟩, og hS fun _ _ hS => Jk Jn rfl rfl (hS.mxcell (i := 8) rfl o313) rfl <| Ja ⟨rfl, Je _⟩, ?_, trivial⟩; intro w315 hE; have hE := hE rfl; have hS := hS.grow hE; intro RR; refine WL.call XF52 rfl XN52 rfl rfl (JO (Je1 (hfgg _ [nV 3 g154 (nI z155), nV 3 g80 (nI r79), nV 3 g75 (nI (x51.length : Int)), nR 3 A52 x51 k53, nV 25 g15 (nS Ay y ky), nV 25 g13 (nS Au u ku), nV 50 g11 (.pointer (some ag)), mx 22 3 Au u.length ku hs301 x300, mx 22 3 Ay y.length ky hs87 x86] hS).1 (hS.mxrd (i := 8) rfl o313) o323)) ?_; rintro _ w320 ⟨_, hGw320, hRww320, hNww320, x316q, A317, k318, rfl, rfl, he⟩; subst he; have hO321 := (hRww320.get (i := 0) rfl).1; have hN322 : ∀ g, bl A317 = some g -> _ <= g := fun g hg => Nat.le_trans hE.size (hNww320.1 g hg); exact Ja ⟨_, rfl, hGw320, ⟨A317, k318, rfl, hO321, hN322⟩, (fun _ => fun g hg => ⟨hNww320.1 g hg, (hO321.bl_ge g hg).2⟩), (fun j h => by cases h)⟩
       intro vals w324 hT hVs hAp hCp; have hS := hS.grow hT; obtain ⟨A317_8, k318_8, hv8, hO321_8, hN322_8⟩ := hVs 8 (by decide); have hS := Qd [] hS0 hS hO321_8 hN322_8 (fun s hs => by cases hs); refine YL [(8, nS A317_8 x316 k318_8)] ⟨hv8, trivial⟩ <| Jm 9 rfl ?_; obtain ⟨o326, hv⟩ := hv; refine JE 9 Jr Js hS rfl rfl rfl o326 rfl <| Ja <| Jm 10 rfl ?_; have hS := hS.pickN 10 [0, 9, 1, 2, 3, 4, 5, 6, 7, 8] rfl
       change St _ _ _ _ (_ :: _ :: _ :: _ :: _ :: _ :: _ :: _ :: _ :: _ :: R0) at hS
       refine Zr hS Js o326 (hS.rd (i := 0) rfl).ilen.symm rfl rfl ?_; intro w327 hS; refine Ja <| JL ?_; have hS := hS.pickN 9 [1, 2, 3, 4, 5, 6, 7, 8, 0] rfl; refine ⟨_, rfl, Fin.nil ?_⟩; exact ⟨sll x86 (x51.length : Int) x316, (up hs87 (x51.length : Int).toNat (A317_8, k318_8)), rfl, hv, hS⟩
      rintro _ w305 ⟨x303, hs304, rfl, hv, hS⟩; refine Ja <| ⟨_, rfl, Fin.nil ?_⟩
      exact ⟨x300, x303, hs301, hs304, rfl, hv, hS⟩
     rintro _ w188 ⟨x184, x186, hs185, hs187, rfl, hv, hS⟩; refine Ja <| Jd 3 <| Jl 5 0 Jr hS rfl rfl rfl ⟨rfl, rfl⟩ <| WL.len Jr rfl rfl <| Jb 2 <| W.block ?_; obtain ⟨I204, μ205, hv, hk299⟩ := hv; refine Jz (σ := LL × LL × Int × Hs × Hs) (fun q w1 => match q with | (x199, x201, z203, hs200, hs202) => I204 x199 x201 z203 /\ St X w0 mr w1 ((nV 3 g154 (nI z155)) :: (nV 3 g80 (nI r79)) :: (nV 3 g75 (nI (x51.length : Int))) :: (nR 3 A52 x51 k53) :: (nV 25 g15 (nS Ay y ky)) :: (nV 25 g13 (nS Au u ku)) :: (nV 50 g11 (.pointer (some ag))) :: (mx 22 3 Au u.length ku hs200 x199) :: (mx 22 3 Ay y.length ky hs202 x201) :: R0)) (fun (x199, x201, z203, hs200, hs202) => [(1, nI cols), (4, nP g11), (6, nP g13), (8, nS A52 x51 k53), (9, nI r149), (10, .func (.func 110) #[] #[nP g13, nP g15]), (11, nI z56), (12, nP g75), (13, nP g80), (14, nP g154), (28, .bool (decide ((x51.length : Int) < (u.length : Int)))), (40, .bool (decide (r79 = (u.length : Int)))), (43, .bool (decide (r79 ≠ (x51.length : Int)))), (76, nI (u.length : Int)), (77, nI z203)]) (fun (x199, x201, z203, hs200, hs202) => μ205 x199 x201 z203) (x184, x186, (0 : Int), hs185, hs187) ⟨hv, hS⟩ ⟨rfl, rfl, rfl, rfl, rfl, rfl, rfl, rfl, rfl, rfl, rfl, rfl, rfl, rfl, rfl, trivial⟩ ?_; rintro ⟨x199, x201, z203, hs200, hs202⟩ w206 ⟨hv, hS⟩; have hv := hk299 x199 x201 z203 hv; refine Jd 5 <| Jf rfl (fun c207 => ?_) (fun c207 => ?_)
     .have hv := hv.1 (oT c207); refine Jj <| Jv ?_; obtain ⟨J215, hv, hk291⟩ := hv; refine Qq (σ := LL × LL × Int × Hs × Hs × Nat × Nat) (fun q w1 => match q with | (x208, x210, z214, hs209, hs211, g212, g213) => J215 x208 x210 z214 /\ St X w0 mr w1 ((nV 3 g212 (nI z203)) :: (nV 3 g213 (nI z214)) :: (nV 3 g154 (nI z155)) :: (nV 3 g80 (nI r79)) :: (nV 3 g75 (nI (x51.length : Int))) :: (nR 3 A52 x51 k53) :: (nV 25 g15 (nS Ay y ky)) :: (nV 25 g13 (nS Au u ku)) :: (nV 50 g11 (.pointer (some ag))) :: (mx 22 3 Au u.length ku hs209 x208) :: (mx 22 3 Ay y.length ky hs211 x210) :: R0)) (fun (x208, x210, z214, hs209, hs211, g212, g213) => [(1, nI cols), (4, nP g11), (6, nP g13), (8, nS A52 x51 k53), (9, nI r149), (10, .func (.func 110) #[] #[nP g13, nP g15]), (11, nI z56), (12, nP g75), (13, nP g80), (14, nP g154), (16, nP g212), (17, nP g213), (28, .bool (decide ((x51.length : Int) < (u.length : Int)))), (40, .bool (decide (r79 = (u.length : Int)))), (43, .bool (decide (r79 ≠ (x51.length : Int)))), (76, nI (u.length : Int)), (77, nI z203), (78, .bool (decide (z203 < (u.length : Int)))), (91, .bool (decide (z203 ≠ (x51.length : Int))))]) ?_ ?_
      .refine W.block ?_; refine Jd 3 <| SL.alloc (cs := [nI 0]) hS XE3 rfl rfl ?_; intro g216 w217 hS; refine JG (cs' := [nI z203]) 0 0 hS rfl XE3 rfl rfl rfl (QT rfl) rfl ?_; intro w218 hS; refine Ja <| Jv ?_; obtain ⟨o223, hv⟩ := hv; obtain ⟨o227, hv⟩ := hv; obtain ⟨r230, o232, hv⟩ := hv; have hS0 := hS; refine QL 10 (fun iA => [false, false, false, false, false, false, false, false, false, true].getD iA false) (fun _ => none) (fun _ v u => u = v) [⟨[], [4], false⟩, ⟨[], [6], false⟩, ⟨[], [16], false⟩, ⟨[1, 2], [], true⟩, ⟨[3], [], false⟩, ⟨[], [11], true⟩, ⟨[4, 5], [], true⟩, ⟨[6], [], false⟩, ⟨[0, 7], [], false⟩, ⟨[], [], false⟩] [.k 80 (.pointer (some ag)), .k 81 (nS Au u ku), .k 82 (nI z203), .k 83 (.pointer (some ((JI Au).add z203.toNat))), .k 84 (.slice ((hs200 z203.toNat).1) ((gl x199 z203).length) ((hs200 z203.toNat).2)), .k 85 (nI z56), .k 86 (.pointer (some ((JI ((hs200 z203.toNat).1)).add z56.toNat))), .k 87 (nI (gi (gl x199 z203) z56)), .k 88 (nI r230), .m 17 (fun v wQ => ∃ g234_9, v = nP g234_9 /\ Own 0 wQ 3 1 (nA g234_9) 1 1 [nI 0] /\ (∀ g, bl (nA g234_9) = some g -> w218.heap.size <= g)) fun _ _ _ ⟨g234_9, hQe, hO236_9, hN237_9⟩ hQ2 => ⟨g234_9, hQe, hO236_9.ext hQ2, hN237_9⟩] (fun _ => vbD) Try.mixed (by kernel_rfl) rfl rfl (fun _ _ _ _ _ _ _ h => h) ?_ ?_
       . refine ⟨og hS fun _ _ hS => Jl 7 0 Jdp hS rfl rfl rfl ⟨rfl, rfl⟩ <| Ja ⟨rfl, Je _⟩, og hS fun _ _ hS => Jl 6 0 Jr hS rfl rfl rfl ⟨rfl, rfl⟩ <| Ja ⟨rfl, Je _⟩, og hS fun _ _ hS => Jl 0 0 XU3 hS rfl rfl rfl ⟨rfl, rfl⟩ <| Ja ⟨rfl, Je _⟩, fun _ _ _ => JE 8 Jr Js hS rfl rfl rfl o223 rfl <| Ja ⟨rfl, rfl⟩, og hS fun _ _ hS => Jk Jn rfl rfl (hS.mxcell (i := 8) rfl o223) rfl <| Ja ⟨rfl, Je _⟩, oC, fun _ _ _ => Jg Jn XE3 (hS.mxrd (i := 8) rfl o223) rfl rfl o227 rfl <| Ja ⟨rfl, rfl⟩, og hS fun _ _ hS => Jk XU3 rfl rfl (JH (hS.mxrd (i := 8) rfl o223) o227) rfl <| Ja ⟨rfl, Je _⟩, ?_, ?_, trivial⟩
         . intro w229 hE; have hS := hS.grow (hE rfl); intro RR; refine WL.call Jss rfl XN113 rfl rfl (JO (Jre (hfgg _ [nV 3 g216 (nI z203), nV 3 g154 (nI z155), nV 3 g80 (nI r79), nV 3 g75 (nI (x51.length : Int)), nR 3 A52 x51 k53, nV 25 g15 (nS Ay y ky), nV 25 g13 (nS Au u ku), nV 50 g11 (.pointer (some ag)), mx 22 3 Au u.length ku hs200 x199, mx 22 3 Ay y.length ky hs202 x201] hS).1 o232)) ?_; rintro _ w231 ⟨_, hGw231, hRww231, hNww231, r230q, rfl, rfl, he⟩; subst he; exact Ja ⟨rfl, hGw231⟩
         intro w233 hE; have hE := hE rfl; have hS := hS.grow hE; intro RR; refine WL.alloc XE3 rfl ?_; intro g234 w235 hg234 hO236 hGw235; have hN237 : ∀ g2, bl (some ⟨g234, 0, none⟩) = some g2 -> _ <= g2 := fun g2 e => by cases e; rw [hg234]; exact hE.size
         have hO236 := Own.low (b' := 0) hO236 (Nat.zero_le _); exact Ja ⟨_, rfl, hGw235, ⟨g234, rfl, hO236, hN237⟩, (fun _ => fun g2 hg2 => by cases hg2; exact ⟨Nat.le_of_eq hg234.symm, (hO236.bl_ge _ rfl).2⟩), (fun j h => by cases h)⟩
       intro vals w238 hT hVs hAp hCp; have hS := hS.grow hT; obtain ⟨g234_9, hv9, hO236_9, hN237_9⟩ := hVs 9 (by decide); have hS := Qd [] hS0 hS hO236_9 hN237_9 (fun s hs => by cases hs); refine YL [(9, nP g234_9)] ⟨hv9, trivial⟩ <| Jm 10 rfl <| JG (cs' := [nI r230]) 0 0 hS rfl XE3 rfl rfl rfl (QT rfl) rfl ?_; intro w240 hS; refine Ja <| JL <| Jd 2 <| Jl 1 0 XU3 hS rfl rfl rfl ⟨rfl, rfl⟩ <| Jl 4 0 XU3 hS rfl rfl rfl ⟨rfl, rfl⟩ <| Jb 2 <| Jf rfl (fun c241 => ?_) (fun c241 => ?_)
       .have hv := hv.1 (oT c241); refine Jd 2 <| QK (vs := [nP g11, nP g216, nP g234_9, nP g75]) rfl rfl <| QV (vs := [.func (.func 116) #[] #[nP g11, nP g216, nP g234_9, nP g75]]) (cs := [nP g13, nP g15]) (R := fun v1 w1 => ∃ (x242 : LL) (x244 : LL) (hs243 : Hs) (hs245 : Hs), v1 = .tuple #[] /\ (J215 x242 x244 r230) /\ St X w0 mr w1 ((nV 3 g234_9 (nI r230)) :: (nV 3 g216 (nI z203)) :: (nV 3 g154 (nI z155)) :: (nV 3 g80 (nI r79)) :: (nV 3 g75 (nI (x51.length : Int))) :: (nR 3 A52 x51 k53) :: (nV 25 g15 (nS Ay y ky)) :: (nV 25 g13 (nS Au u ku)) :: (nV 50 g11 (.pointer (some ag))) :: (mx 22 3 Au u.length ku hs243 x242) :: (mx 22 3 Ay y.length ky hs245 x244) :: R0)) rfl Jgo rfl Jsn rfl rfl (Jh (vs := [.func (.func 116) #[] #[nP g11, nP g216, nP g234_9, nP g75], nP g13, nP g15]) [] Jgo rfl rfl rfl rfl ?_) ?_
        .refine Jv ?_; refine Jd 2 <| Jl 7 0 Jr hS rfl rfl rfl ⟨rfl, rfl⟩ <| QV (vs := [nS Au u ku]) (cs := [nP g11, nP g216, nP g234_9, nP g75]) (R := fun v1 w1 => ∃ (x247 : LL) (hs248 : Hs), v1 = .tuple #[] /\ ((0 <= z203 /\ z203 < (y.length : Nat)) /\ ((0 <= (x51.length : Int) /\ (x51.length : Int) < (y.length : Nat)) /\ (((x51.length : Int).toNat ≠ z203.toNat) /\ (J1 Fg (gl x201 z203) r230 (gl x201 (x51.length : Int)) (fun x270 => (fun (x250 : LL) => (fun (x242 : LL) (x244 : LL) => J215 x242 x244 r230) x247 x250) (sll x201 z203 x270)))))) /\ St X w0 mr w1 ((nV 3 g234_9 (nI r230)) :: (nV 3 g216 (nI z203)) :: (nV 3 g154 (nI z155)) :: (nV 3 g80 (nI r79)) :: (nV 3 g75 (nI (x51.length : Int))) :: (nR 3 A52 x51 k53) :: (nV 25 g15 (nS Ay y ky)) :: (nV 25 g13 (nS Au u ku)) :: (nV 50 g11 (.pointer (some ag))) :: (mx 22 3 Au u.length ku hs248 x247) :: (mx 22 3 Ay y.length ky hs202 x201) :: R0)) rfl Jnr rfl XN116 rfl rfl (Jh (vs := [nS Au u ku, nP g11, nP g216, nP g234_9, nP g75]) [] Jnr rfl rfl rfl rfl ?_) ?_
         .obtain ⟨o275, hv⟩ := hv; obtain ⟨o281, hv⟩ := hv; refine JP 10 [⟨[], [1], false⟩, ⟨[], [0], true⟩, ⟨[], [2], false⟩, ⟨[1, 2], [], true⟩, ⟨[3], [], false⟩, ⟨[], [3], false⟩, ⟨[], [0], true⟩, ⟨[], [4], false⟩, ⟨[6, 7], [], true⟩, ⟨[8], [], false⟩] [(6, .pointer (some ag)), (7, nS Au u ku), (8, nI z203), (9, .pointer (some ((JI Au).add z203.toNat))), (10, .slice ((hs200 z203.toNat).1) ((gl x199 z203).length) ((hs200 z203.toNat).2)), (11, nI r230), (12, nS Au u ku), (13, nI (x51.length : Int)), (14, .pointer (some ((JI Au).add ((x51.length : Int).toNat)))), (15, .slice ((hs200 (x51.length : Int).toNat).1) ((gl x199 (x51.length : Int)).length) ((hs200 (x51.length : Int).toNat).2))] Try.mixed (by kernel_rfl) rfl rfl ?_ ?_
          .refine ⟨og hS fun _ _ hS => Jl 8 0 Jdp hS rfl rfl rfl ⟨rfl, rfl⟩ <| Ja ⟨rfl, Je _⟩, oD, og hS fun _ _ hS => Jl 1 0 XU3 hS rfl rfl rfl ⟨rfl, rfl⟩ <| Ja ⟨rfl, Je _⟩, fun _ _ _ => JE 9 Jr Js hS rfl rfl rfl o275 rfl <| Ja ⟨rfl, rfl⟩, og hS fun _ _ hS => Jk Jn rfl rfl (hS.mxcell (i := 9) rfl o275) rfl <| Ja ⟨rfl, Je _⟩, og hS fun _ _ hS => Jl 0 0 XU3 hS rfl rfl rfl ⟨rfl, rfl⟩ <| Ja ⟨rfl, Je _⟩, oD, og hS fun _ _ hS => Jl 4 0 XU3 hS rfl rfl rfl ⟨rfl, rfl⟩ <| Ja ⟨rfl, Je _⟩, fun _ _ _ => JE 9 Jr Js hS rfl rfl rfl o281 rfl <| Ja ⟨rfl, rfl⟩, og hS fun _ _ hS => Jk Jn rfl rfl (hS.mxcell (i := 9) rfl o281) rfl <| Ja ⟨rfl, Je _⟩, trivial⟩
          intro w283 hT; have hS := hS.grow hT; refine Jm 10 rfl ?_; have hS := hS.pickN 11 [9, 0, 1, 2, 3, 4, 5, 6, 7, 8, 10] rfl
          change St _ _ _ _ (_ :: _ :: _ :: _ :: _ :: _ :: _ :: _ :: _ :: _ :: _ :: R0) at hS
          have hl284 := hS.mxlen (i := 0) rfl; have hS := hS.mxTake o275; obtain ⟨o286, hv⟩ := hv; refine SL.callm 0 hS rfl (ZV (hS.own (i := 0) rfl) (fun wg hgw => (hfgg _ [.row 3 1 ((hs200 z203.toNat).1) ((gl x199 z203).length) ((hs200 z203.toNat).2) (is (gl x199 z203)), mxh 22 3 Au u.length ku hs200 x199 z203, nV 3 g234_9 (nI r230), nV 3 g216 (nI z203), nV 3 g154 (nI z155), nV 3 g80 (nI r79), nV 3 g75 (nI (x51.length : Int)), nR 3 A52 x51 k53, nV 25 g15 (nS Ay y ky), nV 25 g13 (nS Au u ku), nV 50 g11 (.pointer (some ag)), mx 22 3 Ay y.length ky hs202 x201] hS).2 0 _ _ _ _ _ rfl wg hgw) (hS.mxhrd (q := 1) rfl hl284 o281 o286) (hS.mxhapt (p := 0) (q := 1) (by decide) rfl rfl hl284 o281 o286) hv) Jsr rfl XN117 rfl rfl ?_; rintro _ _ w287 ⟨x288, rfl, rfl, hv⟩ hS; have hS := Jgq o275 hl284 (hS.rd (i := 0) rfl).ilen hS; refine Ja <| JL ?_; have hS := hS.pickN 11 [1, 2, 3, 4, 5, 6, 7, 8, 9, 0, 10] rfl; refine ⟨_, rfl, Fin.nil ?_⟩; exact ⟨sll x199 z203 x288, hs200, rfl, hv, hS⟩
         rintro _ w249 ⟨x247, hs248, rfl, hv, hS⟩; refine Ja <| Jd 2 <| Jl 6 0 Jr hS rfl rfl rfl ⟨rfl, rfl⟩ <| QV (vs := [nS Ay y ky]) (cs := [nP g11, nP g216, nP g234_9, nP g75]) (R := fun v1 w1 => ∃ (x250 : LL) (hs251 : Hs), v1 = .tuple #[] /\ ((fun (x242 : LL) (x244 : LL) => J215 x242 x244 r230) x247 x250) /\ St X w0 mr w1 ((nV 3 g234_9 (nI r230)) :: (nV 3 g216 (nI z203)) :: (nV 3 g154 (nI z155)) :: (nV 3 g80 (nI r79)) :: (nV 3 g75 (nI (x51.length : Int))) :: (nR 3 A52 x51 k53) :: (nV 25 g15 (nS Ay y ky)) :: (nV 25 g13 (nS Au u ku)) :: (nV 50 g11 (.pointer (some ag))) :: (mx 22 3 Au u.length ku hs248 x247) :: (mx 22 3 Ay y.length ky hs251 x250) :: R0)) rfl Jnr rfl XN116 rfl rfl (Jh (vs := [nS Ay y ky, nP g11, nP g216, nP g234_9, nP g75]) [] Jnr rfl rfl rfl rfl ?_) ?_
         .obtain ⟨o257, hv⟩ := hv; obtain ⟨o263, hv⟩ := hv; refine JP 10 [⟨[], [1], false⟩, ⟨[], [0], true⟩, ⟨[], [2], false⟩, ⟨[1, 2], [], true⟩, ⟨[3], [], false⟩, ⟨[], [3], false⟩, ⟨[], [0], true⟩, ⟨[], [4], false⟩, ⟨[6, 7], [], true⟩, ⟨[8], [], false⟩] [(6, .pointer (some ag)), (7, nS Ay y ky), (8, nI z203), (9, .pointer (some ((JI Ay).add z203.toNat))), (10, .slice ((hs202 z203.toNat).1) ((gl x201 z203).length) ((hs202 z203.toNat).2)), (11, nI r230), (12, nS Ay y ky), (13, nI (x51.length : Int)), (14, .pointer (some ((JI Ay).add ((x51.length : Int).toNat)))), (15, .slice ((hs202 (x51.length : Int).toNat).1) ((gl x201 (x51.length : Int)).length) ((hs202 (x51.length : Int).toNat).2))] Try.mixed (by kernel_rfl) rfl rfl ?_ ?_
          .refine ⟨og hS fun _ _ hS => Jl 8 0 Jdp hS rfl rfl rfl ⟨rfl, rfl⟩ <| Ja ⟨rfl, Je _⟩, oD, og hS fun _ _ hS => Jl 1 0 XU3 hS rfl rfl rfl ⟨rfl, rfl⟩ <| Ja ⟨rfl, Je _⟩, fun _ _ _ => JE 10 Jr Js hS rfl rfl rfl o257 rfl <| Ja ⟨rfl, rfl⟩, og hS fun _ _ hS => Jk Jn rfl rfl (hS.mxcell (i := 10) rfl o257) rfl <| Ja ⟨rfl, Je _⟩, og hS fun _ _ hS => Jl 0 0 XU3 hS rfl rfl rfl ⟨rfl, rfl⟩ <| Ja ⟨rfl, Je _⟩, oD, og hS fun _ _ hS => Jl 4 0 XU3 hS rfl rfl rfl ⟨rfl, rfl⟩ <| Ja ⟨rfl, Je _⟩, fun _ _ _ => JE 10 Jr Js hS rfl rfl rfl o263 rfl <| Ja ⟨rfl, rfl⟩, og hS fun _ _ hS => Jk Jn rfl rfl (hS.mxcell (i := 10) rfl o263) rfl <| Ja ⟨rfl, Je _⟩, trivial⟩
          intro w265 hT; have hS := hS.grow hT; refine Jm 10 rfl ?_; have hS := hS.pickN 11 [10, 0, 1, 2, 3, 4, 5, 6, 7, 8, 9] rfl
          change St _ _ _ _ (_ :: _ :: _ :: _ :: _ :: _ :: _ :: _ :: _ :: _ :: _ :: R0) at hS
          have hl266 := hS.mxlen (i := 0) rfl; have hS := hS.mxTake o257; obtain ⟨o268, hv⟩ := hv; refine SL.callm 0 hS rfl (ZV (hS.own (i := 0) rfl) (fun wg hgw => (hfgg _ [.row 3 1 ((hs202 z203.toNat).1) ((gl x201 z203).length) ((hs202 z203.toNat).2) (is (gl x201 z203)), mxh 22 3 Ay y.length ky hs202 x201 z203, nV 3 g234_9 (nI r230), nV 3 g216 (nI z203), nV 3 g154 (nI z155), nV 3 g80 (nI r79), nV 3 g75 (nI (x51.length : Int)), nR 3 A52 x51 k53, nV 25 g15 (nS Ay y ky), nV 25 g13 (nS Au u ku), nV 50 g11 (.pointer (some ag)), mx 22 3 Au u.length ku hs248 x247] hS).2 0 _ _ _ _ _ rfl wg hgw) (hS.mxhrd (q := 1) rfl hl266 o263 o268) (hS.mxhapt (p := 0) (q := 1) (by decide) rfl rfl hl266 o263 o268) hv) Jsr rfl XN117 rfl rfl ?_; rintro _ _ w269 ⟨x270, rfl, rfl, hv⟩ hS; have hS := Jgq o257 hl266 (hS.rd (i := 0) rfl).ilen hS; refine Ja <| JL ?_; have hS := hS.pickN 11 [1, 2, 3, 4, 5, 6, 7, 8, 9, 10, 0] rfl; refine ⟨_, rfl, Fin.nil ?_⟩; exact ⟨sll x201 z203 x270, hs202, rfl, hv, hS⟩
         rintro _ w252 ⟨x250, hs251, rfl, hv, hS⟩; refine Ja <| ⟨_, rfl, Fin.nil ?_⟩
         exact ⟨x247, x250, hs248, hs251, rfl, hv, hS⟩
        rintro _ w246 ⟨x242, x244, hs243, hs245, rfl, hv, hS⟩; refine Ja ?_; have hS := hS.pickN 11 [1, 0, 2, 3, 4, 5, 6, 7, 8, 9, 10] rfl; exact ⟨(x242, x244, r230, hs243, hs245, g216, g234_9), sp rfl, rfl, hv, hS⟩
       have hv := hv.2 (oF c241); refine Jj ?_; have hS := hS.pickN 11 [1, 0, 2, 3, 4, 5, 6, 7, 8, 9, 10] rfl; exact ⟨(x199, x201, r230, hs200, hs202, g216, g234_9), sp rfl, rfl, hv, hS⟩
      rintro ⟨x208, x210, z214, hs209, hs211, g212, g213⟩ w289 ⟨hv, hS⟩; have hv := hk291 x208 x210 z214 hv; refine JD ?_; obtain ⟨o290, hv⟩ := hv; refine WL.add (r := (z203 + 1)) rfl rfl (wr o290) rfl <| Jb 2 ?_; have hS := hS.pickN 11 [2, 3, 4, 5, 6, 7, 8, 9, 10] rfl; exact ⟨(x208, x210, (z203 + 1), hs209, hs211), sp rfl, hv.2, rfl, hv.1, hS⟩
     have hv := hv.2 (oF c207); refine Jt <| Jd 3 <| Qu (vs := is ([z56] : LI)) hS Jn XE3 rfl rfl rfl rfl (Qj _) rfl ?_; intro A292 w293 hS; obtain ⟨o295, hv⟩ := hv; refine SL.append (cs := is x51) (cs' := is ([z56] : LI)) 4 ((x51 ++ ([z56] : LI)).length) (is (x51 ++ ([z56] : LI))) hS rfl Jn XE3 (hS.rd (i := 0) rfl) (Qj _) rfl rfl (apk o295).1 (apk o295).2 (ZN (hS.rd (i := 4) rfl) (hS.rd (i := 0) rfl)) (Qh _ _) rfl ?_; intro A296 k297 w298 hS; refine Jb 2 ?_; have hS := hS.pickN 10 [3, 2, 4, 5, 6, 7, 8, 9] rfl; exact ⟨(x51 ++ ([z56] : LI), x199, x201, r149, r79, (decide (r79 = (u.length : Int))), A296, k297, hs200, hs202, g75, g80), sp rfl, rfl, hv, hS⟩
    rintro ⟨x62, x65, x67, z69, z72, b73, A63, k64, hs66, hs68, g70, g71⟩ w352 ⟨hv, hS⟩; have hv := hk354 x62 x65 x67 z69 z72 b73 hv; refine Jd 2 ?_; obtain ⟨o353, hv⟩ := hv; refine WL.add (r := (z56 + 1)) rfl rfl (wr o353) rfl <| Jb 2 ?_; have hS := hS.pickN 8 [2, 3, 4, 5, 6, 7] rfl; exact ⟨(x65, x67, x62, z69, (z56 + 1), hs66, hs68, A63, k64), sp rfl, hv.2, rfl, hv.1, hS⟩
   have hv := hv.2 (oF c61); refine Jt ?_; exact ⟨(x47, x49, x51, z55, hs48, hs50, A52, k53), ⟨rfl, rfl, trivial⟩, rfl, hv, hS⟩
  have hv := hv.2 g60; rw [decide_eq_false g60]; refine Jb 7 <| QP rfl <| Jt ?_; exact ⟨(x47, x49, x51, z55, hs48, hs50, A52, k53), ⟨rfl, rfl, trivial⟩, rfl, hv, hS⟩
 rintro ⟨x17, x19, x21, z25, hs18, hs20, A22, k23⟩ w356 ⟨hv, hS⟩; have hv := hk357 x17 x19 x21 z25 hv; refine Jd 7 <| W.ret ?_; have hS := hS.pickN 6 [0, 4, 5] rfl
 change St _ _ _ _ (_ :: _ :: _ :: R0) at hS
 refine ⟨_, rfl, Fin.nil ?_⟩; exact ⟨x21, z25, x17, x19, A22, k23, hs18, hs20, rfl, hS, hv⟩
end Go.Proofs.Ytgjloioccgcceaa
namespace Go.Proofs.Ytgjloioccgcceaa
open Go.RowKit
def Y8 (Fg : GFv) (Cm : Int) (m : LL) (Q : Int × LL × LI -> Prop) : Prop :=
  Jcb m (fun x16 => (0 <= (x16.length : Int) /\ (x16.length : Int) * 24 <= 281474976710656 /\ (x16.length : Int) <= 281474976710656) /\ (Yw Fg Cm x16 (List.replicate (x16.length : Int).toNat ([] : LI)) (fun (x38, r39, x43, x44) => (0 <= (x38.length : Int) /\ (x38.length : Int) <= (x16.length : Nat)) /\ (Q (Cm, (x43.take (x38.length : Int).toNat), x38)))))
theorem Jhp {w : World} {Q : Int × LL × LI -> Prop} {Fg : GFv} {Cm : Int} {m : LL} {ag : Addr} {Bg : Nat} (hgg : GFR Bg w ag Fg) {Am : Option Addr} {nm km : Nat} (hm : Rl w Am nm km m) (hv : Y8 Fg Cm m Q) :
   Calls Try.prog 91 #[.pointer (some ag), .agg #[.int .i64 Cm, .slice Am nm km]] w <| Rt w fun v Qr => ∃ (c0 : Int) (r0 : LL) (r1 : LI) (A0 : Option Addr) (k0 : Nat) (hs0 : Hs) (A1 : Option Addr) (k1 : Nat), v = .tuple #[.agg #[.int .i64 c0, .slice A0 r0.length k0], .slice A1 r1.length k1] /\ Qr = [mx 22 3 A0 r0.length k0 hs0 r0, .row 3 1 A1 r1.length k1 (is r1)] /\ Q (c0, r0, r1) := by
 have hgg_ := hgg; obtain ⟨Ag_mod, kg_mod, Ag_exp, kg_exp, Ag_log, kg_log, Ag_above, kg_above, hg_c, hg_mod, hg_exp, hg_log, hg_above⟩ := hgg_; have hnm := hm.len; subst hnm; obtain ⟨hsm, hHm⟩ := hm.heads; refine Ji <| J8 (vs := [.pointer (some ag), .agg #[nI Cm, nS Am m km]]) [.cell 4 59, .tmp 5] XF91 rfl rfl rfl rfl ?_; have hS := Jp w; unfold Y8 at hv; refine Jd 2 <| JA (z := 2) (cs := [nI Cm, nS Am m km]) hS rfl rfl rfl rfl ?_; intro g11 w12 hS; refine SL.alloc (cs := [nI 0, .slice none 0 0]) hS Qg rfl rfl ?_; intro g13 w14 hS; refine Jb 2 <| Jd 2 <| Jc (off := 1) Qw rfl rfl <| Jl 1 1 Jr hS rfl rfl rfl ⟨rfl, rfl⟩ <| SL.call hS (Joq (RlH.rl (RlH.ext hHm hS.ext)) hv) XF104 rfl XN104 rfl rfl ?_; rintro _ _ w15 ⟨x16, A17, k18, hs19, rfl, rfl, hv⟩ hGw15 hS; have hS := hS.n1; refine Jb 2 <| Jv ?_; obtain ⟨o30, hv⟩ := hv; have hS0 := hS; refine QL 7 (fun iA => [false, false, false, false, false, false, true].getD iA false) (fun _ => none) (fun _ v u => u = v) [⟨[], [0], true⟩, ⟨[], [3], true⟩, ⟨[1], [], false⟩, ⟨[], [6], true⟩, ⟨[], [6], true⟩, ⟨[4], [], true⟩, ⟨[5], [], false⟩] [.k 13 (.pointer (some ag)), .k 14 (nP g11), .k 15 (nI Cm), .k 16 (nS A17 x16 k18), .k 17 (nS A17 x16 k18), .k 18 (nI (x16.length : Int)), .m 19 (fun v wQ => ∃ A28_6 k31_6, v = .slice A28_6 ((x16.length : Int).toNat) k31_6 /\ Rows w15.heap.size none wQ [mx 22 3 A28_6 ((x16.length : Int).toNat) k31_6 (fun _ => (none, 0)) (List.replicate (x16.length : Int).toNat ([] : LI))]) fun _ _ _ ⟨A28_6, k31_6, hQe, hR32_6⟩ hQ2 => ⟨A28_6, k31_6, hQe, hR32_6.ext hQ2⟩] (fun iD => [vbD, vbD, vbD, vbD, vbD, vbD, rch].getD iD vbD) Try.mixed (by kernel_rfl) rfl rfl ?_ ?_ ?_
 . intro jD vD w1D w2D hvD hgD gD hD_; rcases jD with _ | _ | _ | _ | _ | _ | _ | jD
   any_goals exact hD_
   obtain ⟨A28_6, k31_6, rfl, hR32_6⟩ := hvD; exact Jqy hR32_6 hgD hD_
 . refine ⟨oC, fun _ _ _ => Jc (off := 0) Yd rfl rfl <| Ja ⟨rfl, rfl⟩, og hS fun _ _ hS => Jl 2 0 XU3 hS rfl rfl rfl ⟨rfl, rfl⟩ <| Ja ⟨rfl, Je _⟩, oC, oC, fun _ _ _ => WL.len Jr rfl rfl <| Ja ⟨rfl, rfl⟩, ?_, trivial⟩; intro w27 hE; have hE := hE rfl; have hS := hS.grow hE; intro RR; refine Jko (J := (x16.length : Int)) Jr Js rfl rfl o30 (Jni _) rfl ?_; intro A28 k31 w29 hO33 hN34 hGw29; have hR32w := Jt7 (eI := 3) hO33 hN34; have hR32 := hR32w.mxbase hE.size; exact Ja ⟨_, rfl, hGw29, ⟨A28, k31, rfl, hR32⟩, (fun _ => fun g hg => Jtt hR32w hg), (fun j h => by cases h)⟩
 intro vals w35 hT hVs hAp hCp; have hS := hS.grow hT; obtain ⟨A28_6, k31_6, hv6, hR32_6⟩ := hVs 6 (by decide); have hS := Js5 [] hS0 hS hR32_6 (fun s hs => by cases hs); refine YL [(6, .slice A28_6 ((x16.length : Int).toNat) k31_6)] ⟨hv6, trivial⟩ <| Jm 7 rfl ?_; have hS := hS.pick [1, 0, 2, 3] rfl; have hlw1 := (hS.mxlen (i := 1) rfl).symm; have hS := hS.relenMx (i := 1) rfl hlw1; refine WL.call XF105 rfl XN105 (by rw [<- hlw1]; rfl) rfl (Jho (Jpt hgg) hS hv) ?_; rintro _ w37 ⟨x38, r39, x43, x44, A40, k41, hs45, hs46, rfl, hS, hv⟩; refine Ja <| Jm 8 rfl <| Jb 2 <| QD 9 10 rfl rfl ?_ ?_
 .refine Jb 2 <| QD 10 11 rfl rfl ?_ ?_
  .refine Jb 2 <| Jm 11 rfl <| Jb 2 <| Jm 12 rfl <| Jb 2 <| JL <| Jv ?_; obtain ⟨o53, hv⟩ := hv; have hS0 := hS; refine YB 8 [7] (fun _ => false) (fun _ => none) (fun _ v u => u = v) [⟨[], [3], true⟩, ⟨[0], [], false⟩, ⟨[], [6], true⟩, ⟨[], [7], true⟩, ⟨[3], [], true⟩, ⟨[2, 4], [], true⟩, ⟨[1, 5], [], true⟩, ⟨[], [7], true⟩] [.k 23 (nP g11), .k 24 (nI Cm), .k 25 (nS A17 x16 k18), .k 26 (nS A40 x38 k41), .k 27 (nI (x38.length : Int)), .k 28 (.slice A17 ((x43.take (x38.length : Int).toNat).length) k18), .k 29 (.agg #[nI Cm, .slice A17 ((x43.take (x38.length : Int).toNat).length) k18]), .k 30 (nS A40 x38 k41)] (fun _ => vbD) Try.mixed (by kernel_rfl) rfl rfl (fun _ _ _ _ _ _ _ h => h) ?_ ?_
   .refine ⟨fun _ _ _ => Jc (off := 0) Yd rfl rfl <| Ja ⟨rfl, rfl⟩, og hS fun _ _ hS => Jl 4 0 XU3 hS rfl rfl rfl ⟨rfl, rfl⟩ <| Ja ⟨rfl, Je _⟩, oC, oC, fun _ _ _ => WL.len Jn rfl rfl <| Ja ⟨rfl, rfl⟩, fun _ _ _ => Jas Jr Js (hS.mxout (i := 1) rfl) rfl rfl o53 rfl (x43.take (x38.length : Int).toNat).length (ZS (hS.rl (i := 1) rfl) o53) <| Ja ⟨rfl, rfl⟩, fun _ _ _ => JQ (cells := #[nI Cm, .slice A17 ((x43.take (x38.length : Int).toNat).length) k18]) Jkg rfl rfl rfl <| Ja ⟨rfl, rfl⟩, oC, trivial⟩
   intro X hX; have hX : X ∈ ([[], [7]] : List (List Nat)) := hX; simp only [List.mem_cons, List.not_mem_nil, or_false] at hX; rcases hX with rfl | rfl
   .intro vals w56 hT hVs hAp hCp q_ hq_; have hS := hS.grow hT; obtain rfl : q_ = 2 := hq_.trans (by decide +kernel); refine Jm 8 rfl <| Jw (cs := [nI Cm, .slice A17 ((x43.take (x38.length : Int).toNat).length) k18]) 3 hS rfl Qg rfl rfl rfl rfl rfl ?_; intro w57 hS; refine Ja <| Jm 9 rfl <| Jb 2 <| JL <| W.ret ?_; have hS := hS.pick [1, 0, 2, 3, 4] rfl; have hS := hS.mxShrink (k := (x38.length : Int).toNat) (by omega); have hm0 := hS.mxlen (i := 0) rfl; have hS := hS.relenMx (i := 0) rfl hm0.symm
    change St _ _ _ _ [_, _, _, _, _] at hS
    repeat with_reducible first | refine blk.ret ?_ | refine exits.retI ?_
    refine endC.mk ⟨[.agg #[nI Cm, .slice A17 ((x43.take (x38.length : Int).toNat).length) k18], nS A40 x38 k41], ⟨_, _, _, rfl, rfl, JB (cs := [nI Cm, .slice A17 ((x43.take (x38.length : Int).toNat).length) k18]) Qg Yt rfl (Ju (hS.own (i := 3) rfl)), ⟨_, _, rfl, rfl, rfl⟩⟩, ?_⟩; exact (hS.pick [0, 1] rfl).fin rfl ⟨Cm, (x43.take (x38.length : Int).toNat), x38, A17, k18, hs45, A40, k41, rfl, rfl, hv⟩
   intro vals w56 hT hVs hAp hCp q_ hq_; have hS := hS.grow hT; obtain rfl : q_ = 3 := hq_.trans (by decide +kernel); refine QD 7 8 rfl rfl ?_ ?_
   .refine Jb 2 <| Jm 8 rfl <| Jw (cs := [nI Cm, .slice A17 ((x43.take (x38.length : Int).toNat).length) k18]) 3 hS rfl Qg rfl rfl rfl rfl rfl ?_; intro w57 hS; refine Ja <| Jm 9 rfl <| Jb 2 <| JL <| W.ret ?_; have hS := hS.pick [1, 0, 2, 3, 4] rfl; have hS := hS.mxShrink (k := (x38.length : Int).toNat) (by omega); have hm0 := hS.mxlen (i := 0) rfl; have hS := hS.relenMx (i := 0) rfl hm0.symm
    change St _ _ _ _ [_, _, _, _, _] at hS
    repeat with_reducible first | refine blk.ret ?_ | refine exits.retI ?_
    refine endC.mk ⟨[.agg #[nI Cm, .slice A17 ((x43.take (x38.length : Int).toNat).length) k18], nS A40 x38 k41], ⟨_, _, _, rfl, rfl, JB (cs := [nI Cm, .slice A17 ((x43.take (x38.length : Int).toNat).length) k18]) Qg Yt rfl (Ju (hS.own (i := 3) rfl)), ⟨_, _, rfl, rfl, rfl⟩⟩, ?_⟩; exact (hS.pick [0, 1] rfl).fin rfl ⟨Cm, (x43.take (x38.length : Int).toNat), x38, A17, k18, hs45, A40, k41, rfl, rfl, hv⟩
   refine Jw (cs := [nI Cm, .slice A17 ((x43.take (x38.length : Int).toNat).length) k18]) 3 hS rfl Qg rfl rfl rfl rfl rfl ?_; intro w57 hS; refine Ja <| Jm 7 rfl <| Jb 2 <| Jm 9 rfl <| Jb 2 <| JL <| W.ret ?_; have hS := hS.pick [1, 0, 2, 3, 4] rfl; have hS := hS.mxShrink (k := (x38.length : Int).toNat) (by omega); have hm0 := hS.mxlen (i := 0) rfl; have hS := hS.relenMx (i := 0) rfl hm0.symm
   change St _ _ _ _ [_, _, _, _, _] at hS
   repeat with_reducible first | refine blk.ret ?_ | refine exits.retI ?_
   refine endC.mk ⟨[.agg #[nI Cm, .slice A17 ((x43.take (x38.length : Int).toNat).length) k18], nS A40 x38 k41], ⟨_, _, _, rfl, rfl, JB (cs := [nI Cm, .slice A17 ((x43.take (x38.length : Int).toNat).length) k18]) Qg Yt rfl (Ju (hS.own (i := 3) rfl)), ⟨_, _, rfl, rfl, rfl⟩⟩, ?_⟩; exact (hS.pick [0, 1] rfl).fin rfl ⟨Cm, (x43.take (x38.length : Int).toNat), x38, A17, k18, hs45, A40, k41, rfl, rfl, hv⟩
  refine Jb 2 <| Jm 10 rfl <| Jb 2 <| Jm 12 rfl <| Jb 2 <| JL <| Jv ?_; obtain ⟨o53, hv⟩ := hv; have hS0 := hS; refine YB 8 [7] (fun _ => false) (fun _ => none) (fun _ v u => u = v) [⟨[], [3], true⟩, ⟨[0], [], false⟩, ⟨[], [6], true⟩, ⟨[], [7], true⟩, ⟨[3], [], true⟩, ⟨[2, 4], [], true⟩, ⟨[1, 5], [], true⟩, ⟨[], [7], true⟩] [.k 23 (nP g11), .k 24 (nI Cm), .k 25 (nS A17 x16 k18), .k 26 (nS A40 x38 k41), .k 27 (nI (x38.length : Int)), .k 28 (.slice A17 ((x43.take (x38.length : Int).toNat).length) k18), .k 29 (.agg #[nI Cm, .slice A17 ((x43.take (x38.length : Int).toNat).length) k18]), .k 30 (nS A40 x38 k41)] (fun _ => vbD) Try.mixed (by kernel_rfl) rfl rfl (fun _ _ _ _ _ _ _ h => h) ?_ ?_
  . refine ⟨fun _ _ _ => Jc (off := 0) Yd rfl rfl <| Ja ⟨rfl, rfl⟩, og hS fun _ _ hS => Jl 4 0 XU3 hS rfl rfl rfl ⟨rfl, rfl⟩ <| Ja ⟨rfl, Je _⟩, oC, oC, fun _ _ _ => WL.len Jn rfl rfl <| Ja ⟨rfl, rfl⟩, fun _ _ _ => Jas Jr Js (hS.mxout (i := 1) rfl) rfl rfl o53 rfl (x43.take (x38.length : Int).toNat).length (ZS (hS.rl (i := 1) rfl) o53) <| Ja ⟨rfl, rfl⟩, fun _ _ _ => JQ (cells := #[nI Cm, .slice A17 ((x43.take (x38.length : Int).toNat).length) k18]) Jkg rfl rfl rfl <| Ja ⟨rfl, rfl⟩, oC, trivial⟩
  intro X hX; have hX : X ∈ ([[], [7]] : List (List Nat)) := hX; simp only [List.mem_cons, List.not_mem_nil, or_false] at hX; rcases hX with rfl | rfl
  .intro vals w56 hT hVs hAp hCp q_ hq_; have hS := hS.grow hT; obtain rfl : q_ = 2 := hq_.trans (by decide +kernel); refine Jm 8 rfl <| Jw (cs := [nI Cm, .slice A17 ((x43.take (x38.length : Int).toNat).length) k18]) 3 hS rfl Qg rfl rfl rfl rfl rfl ?_; intro w57 hS; refine Ja <| Jm 9 rfl <| Jb 2 <| JL <| W.ret ?_; have hS := hS.pick [1, 0, 2, 3, 4] rfl; have hS := hS.mxShrink (k := (x38.length : Int).toNat) (by omega); have hm0 := hS.mxlen (i := 0) rfl; have hS := hS.relenMx (i := 0) rfl hm0.symm
   change St _ _ _ _ [_, _, _, _, _] at hS
   repeat with_reducible first | refine blk.ret ?_ | refine exits.retI ?_
   refine endC.mk ⟨[.agg #[nI Cm, .slice A17 ((x43.take (x38.length : Int).toNat).length) k18], nS A40 x38 k41], ⟨_, _, _, rfl, rfl, JB (cs := [nI Cm, .slice A17 ((x43.take (x38.length : Int).toNat).length) k18]) Qg Yt rfl (Ju (hS.own (i := 3) rfl)), ⟨_, _, rfl, rfl, rfl⟩⟩, ?_⟩; exact (hS.pick [0, 1] rfl).fin rfl ⟨Cm, (x43.take (x38.length : Int).toNat), x38, A17, k18, hs45, A40, k41, rfl, rfl, hv⟩
  intro vals w56 hT hVs hAp hCp q_ hq_; have hS := hS.grow hT; obtain rfl : q_ = 3 := hq_.trans (by decide +kernel); refine QD 7 8 rfl rfl ?_ ?_
  .refine Jb 2 <| Jm 8 rfl <| Jw (cs := [nI Cm, .slice A17 ((x43.take (x38.length : Int).toNat).length) k18]) 3 hS rfl Qg rfl rfl rfl rfl rfl ?_; intro w57 hS; refine Ja <| Jm 9 rfl <| Jb 2 <| JL <| W.ret ?_; have hS := hS.pick [1, 0, 2, 3, 4] rfl; have hS := hS.mxShrink (k := (x38.length : Int).toNat) (by omega); have hm0 := hS.mxlen (i := 0) rfl; have hS := hS.relenMx (i := 0) rfl hm0.symm
   change St _ _ _ _ [_, _, _, _, _] at hS
   repeat with_reducible first | refine blk.ret ?_ | refine exits.retI ?_
   refine endC.mk ⟨[.agg #[nI Cm, .slice A17 ((x43.take (x38.length : Int).toNat).length) k18], nS A40 x38 k41], ⟨_, _, _, rfl, rfl, JB (cs := [nI Cm, .slice A17 ((x43.take (x38.length : Int).toNat).length) k18]) Qg Yt rfl (Ju (hS.own (i := 3) rfl)), ⟨_, _, rfl, rfl, rfl⟩⟩, ?_⟩; exact (hS.pick [0, 1] rfl).fin rfl ⟨Cm, (x43.take (x38.length : Int).toNat), x38, A17, k18, hs45, A40, k41, rfl, rfl, hv⟩
  refine Jw (cs := [nI Cm, .slice A17 ((x43.take (x38.length : Int).toNat).length) k18]) 3 hS rfl Qg rfl rfl rfl rfl rfl ?_; intro w57 hS; refine Ja <| Jm 7 rfl <| Jb 2 <| Jm 9 rfl <| Jb 2 <| JL <| W.ret ?_; have hS := hS.pick [1, 0, 2, 3, 4] rfl; have hS := hS.mxShrink (k := (x38.length : Int).toNat) (by omega); have hm0 := hS.mxlen (i := 0) rfl; have hS := hS.relenMx (i := 0) rfl hm0.symm
  change St _ _ _ _ [_, _, _, _, _] at hS
  repeat with_reducible first | refine blk.ret ?_ | refine exits.retI ?_
  refine endC.mk ⟨[.agg #[nI Cm, .slice A17 ((x43.take (x38.length : Int).toNat).length) k18], nS A40 x38 k41], ⟨_, _, _, rfl, rfl, JB (cs := [nI Cm, .slice A17 ((x43.take (x38.length : Int).toNat).length) k18]) Qg Yt rfl (Ju (hS.own (i := 3) rfl)), ⟨_, _, rfl, rfl, rfl⟩⟩, ?_⟩; exact (hS.pick [0, 1] rfl).fin rfl ⟨Cm, (x43.take (x38.length : Int).toNat), x38, A17, k18, hs45, A40, k41, rfl, rfl, hv⟩
 refine Jb 2 <| Jm 9 rfl <| Jb 2 <| Jm 11 rfl <| Jb 2 <| Jm 12 rfl <| Jb 2 <| JL <| Jv ?_; obtain ⟨o53, hv⟩ := hv; have hS0 := hS; refine YB 8 [7] (fun _ => false) (fun _ => none) (fun _ v u => u = v) [⟨[], [3], true⟩, ⟨[0], [], false⟩, ⟨[], [6], true⟩, ⟨[], [7], true⟩, ⟨[3], [], true⟩, ⟨[2, 4], [], true⟩, ⟨[1, 5], [], true⟩, ⟨[], [7], true⟩] [.k 23 (nP g11), .k 24 (nI Cm), .k 25 (nS A17 x16 k18), .k 26 (nS A40 x38 k41), .k 27 (nI (x38.length : Int)), .k 28 (.slice A17 ((x43.take (x38.length : Int).toNat).length) k18), .k 29 (.agg #[nI Cm, .slice A17 ((x43.take (x38.length : Int).toNat).length) k18]), .k 30 (nS A40 x38 k41)] (fun _ => vbD) Try.mixed (by kernel_rfl) rfl rfl (fun _ _ _ _ _ _ _ h => h) ?_ ?_
 . refine ⟨fun _ _ _ => Jc (off := 0) Yd rfl rfl <| Ja ⟨rfl, rfl⟩, og hS fun _ _ hS => Jl 4 0 XU3 hS rfl rfl rfl ⟨rfl, rfl⟩ <| Ja ⟨rfl, Je _⟩, oC, oC, fun _ _ _ => WL.len Jn rfl rfl <| Ja ⟨rfl, rfl⟩, fun _ _ _ => Jas Jr Js (hS.mxout (i := 1) rfl) rfl rfl o53 rfl (x43.take (x38.length : Int).toNat).length (ZS (hS.rl (i := 1) rfl) o53) <| Ja ⟨rfl, rfl⟩, fun _ _ _ => JQ (cells := #[nI Cm, .slice A17 ((x43.take (x38.length : Int).toNat).length) k18]) Jkg rfl rfl rfl <| Ja ⟨rfl, rfl⟩, oC, trivial⟩
 intro X hX; have hX : X ∈ ([[], [7]] : List (List Nat)) := hX; simp only [List.mem_cons, List.not_mem_nil, or_false] at hX; rcases hX with rfl | rfl
 .intro vals w56 hT hVs hAp hCp q_ hq_; have hS := hS.grow hT; obtain rfl : q_ = 2 := hq_.trans (by decide +kernel); refine Jm 8 rfl <| Jw (cs := [nI Cm, .slice A17 ((x43.take (x38.length : Int).toNat).length) k18]) 3 hS rfl Qg rfl rfl rfl rfl rfl ?_; intro w57 hS; refine Ja <| Jm 9 rfl <| Jb 2 <| JL <| W.ret ?_; have hS := hS.pick [1, 0, 2, 3, 4] rfl; have hS := hS.mxShrink (k := (x38.length : Int).toNat) (by omega); have hm0 := hS.mxlen (i := 0) rfl; have hS := hS.relenMx (i := 0) rfl hm0.symm
  change St _ _ _ _ [_, _, _, _, _] at hS
  repeat with_reducible first | refine blk.ret ?_ | refine exits.retI ?_
  refine endC.mk ⟨[.agg #[nI Cm, .slice A17 ((x43.take (x38.length : Int).toNat).length) k18], nS A40 x38 k41], ⟨_, _, _, rfl, rfl, JB (cs := [nI Cm, .slice A17 ((x43.take (x38.length : Int).toNat).length) k18]) Qg Yt rfl (Ju (hS.own (i := 3) rfl)), ⟨_, _, rfl, rfl, rfl⟩⟩, ?_⟩; exact (hS.pick [0, 1] rfl).fin rfl ⟨Cm, (x43.take (x38.length : Int).toNat), x38, A17, k18, hs45, A40, k41, rfl, rfl, hv⟩
 intro vals w56 hT hVs hAp hCp q_ hq_; have hS := hS.grow hT; obtain rfl : q_ = 3 := hq_.trans (by decide +kernel); refine QD 7 8 rfl rfl ?_ ?_
 .refine Jb 2 <| Jm 8 rfl <| Jw (cs := [nI Cm, .slice A17 ((x43.take (x38.length : Int).toNat).length) k18]) 3 hS rfl Qg rfl rfl rfl rfl rfl ?_; intro w57 hS; refine Ja <| Jm 9 rfl <| Jb 2 <| JL <| W.ret ?_; have hS := hS.pick [1, 0, 2, 3, 4] rfl; have hS := hS.mxShrink (k := (x38.length : Int).toNat) (by omega); have hm0 := hS.mxlen (i := 0) rfl; have hS := hS.relenMx (i := 0) rfl hm0.symm
  change St _ _ _ _ [_, _, _, _, _] at hS
  repeat with_reducible first | refine blk.ret ?_ | refine exits.retI ?_
  refine endC.mk ⟨[.agg #[nI Cm, .slice A17 ((x43.take (x38.length : Int).toNat).length) k18], nS A40 x38 k41], ⟨_, _, _, rfl, rfl, JB (cs := [nI Cm, .slice A17 ((x43.take (x38.length : Int).toNat).length) k18]) Qg Yt rfl (Ju (hS.own (i := 3) rfl)), ⟨_, _, rfl, rfl, rfl⟩⟩, ?_⟩; exact (hS.pick [0, 1] rfl).fin rfl ⟨Cm, (x43.take (x38.length : Int).toNat), x38, A17, k18, hs45, A40, k41, rfl, rfl, hv⟩
 refine Jw (cs := [nI Cm, .slice A17 ((x43.take (x38.length : Int).toNat).length) k18]) 3 hS rfl Qg rfl rfl rfl rfl rfl ?_; intro w57 hS; refine Ja <| Jm 7 rfl <| Jb 2 <| Jm 9 rfl <| Jb 2 <| JL <| W.ret ?_; have hS := hS.pick [1, 0, 2, 3, 4] rfl; have hS := hS.mxShrink (k := (x38.length : Int).toNat) (by omega); have hm0 := hS.mxlen (i := 0) rfl; have hS := hS.relenMx (i := 0) rfl hm0.symm
 change St _ _ _ _ [_, _, _, _, _] at hS
 repeat with_reducible first | refine blk.ret ?_ | refine exits.retI ?_
 refine endC.mk ⟨[.agg #[nI Cm, .slice A17 ((x43.take (x38.length : Int).toNat).length) k18], nS A40 x38 k41], ⟨_, _, _, rfl, rfl, JB (cs := [nI Cm, .slice A17 ((x43.take (x38.length : Int).toNat).length) k18]) Qg Yt rfl (Ju (hS.own (i := 3) rfl)), ⟨_, _, rfl, rfl, rfl⟩⟩, ?_⟩; exact (hS.pick [0, 1] rfl).fin rfl ⟨Cm, (x43.take (x38.length : Int).toNat), x38, A17, k18, hs45, A40, k41, rfl, rfl, hv⟩
def Za (Pf : Int) (Mf : Int) (mf : LI) (Cm : Int) (m : LL) (Q : Int × LL × LI × Int -> Prop) : Prop :=
  Jc5 Pf Mf mf ([(Cm, m)] : List Mt) (fun q => match q with | (none, r22) => (r22 ≠ 0) -> (Q ((0 : Int), ([] : LL), ([] : LI), r22)) | (some F23, _) => Y8 F23 Cm m (fun (c33, x34, x35) => Q (c33, x34, x35, (0 : Int))))
theorem Jhs {w : World} {Q : Int × LL × LI × Int -> Prop} {Pf : Int} {Mf : Int} {mf : LI} {Cm : Int} {m : LL} {Bf : Nat} {Af : Option Addr} {nf kf : Nat} (hf : Rd Bf w 1 Af nf kf (is mf)) {Am : Option Addr} {nm km : Nat} (hm : Rl w Am nm km m) (hv : Za Pf Mf mf Cm m Q) :
   Calls Try.prog 66 #[.agg #[.int .i64 Pf, .int .i64 Mf, .slice Af nf kf], .agg #[.int .i64 Cm, .slice Am nm km]] w <| Rt w fun v Qr => ∃ (c0 : Int) (r0 : LL) (r1 : LI) (r2 : Int) (A0 : Option Addr) (k0 : Nat) (hs0 : Hs) (A1 : Option Addr) (k1 : Nat), v = .tuple #[.agg #[.int .i64 c0, .slice A0 r0.length k0], .slice A1 r1.length k1, .int .i64 r2] /\ Qr = [mx 22 3 A0 r0.length k0 hs0 r0, .row 3 1 A1 r1.length k1 (is r1)] /\ Q (c0, r0, r1, r2) := by
 have hnf := hf.ilen; subst hnf; have hnm := hm.len; subst hnm; obtain ⟨hsm, hHm⟩ := hm.heads; refine Ji <| J8 (vs := [.agg #[nI Pf, nI Mf, nS Af mf kf], .agg #[nI Cm, nS Am m km]]) [.cell 4 59, .tmp 5, .tmp 6] XF66 rfl rfl rfl rfl ?_; have hS := Jp w; unfold Za at hv; refine Jd 2 <| JA (z := 3) (cs := [nI Pf, nI Mf, nS Af mf kf]) hS rfl rfl rfl rfl ?_; intro g11 w12 hS; refine JA (z := 2) (cs := [nI Cm, nS Am m km]) hS rfl rfl rfl rfl ?_; intro g13 w14 hS; refine SL.alloc (cs := [nI 0, .slice none 0 0]) hS Qg rfl rfl ?_; intro g15 w16 hS; refine Jb 3 <| Jd 2 <| JC 2 JW JY hS rfl ⟨rfl, rfl⟩ rfl <| JC 1 Qg Yt hS rfl ⟨rfl, rfl⟩ rfl <| Jat (cells := [nI Cm, nS Am m km]) hS Jgn Qg rfl ⟨_, rfl, rfl⟩ rfl rfl ?_; intro A17 w18 hS; refine SL.call hS (Jm7 (hS.ro hf) (⟨_, _, (hS.rd (i := 0) rfl), ⟨rfl, ⟨_, _, (sm0 (Rl.len (RlH.rl (RlH.ext hHm hS.ext))).symm), (Rl.nm (RlH.rl (RlH.ext hHm hS.ext)))⟩, trivial⟩⟩ : Rm _ _ _ _ ([(Cm, m)] : List Mt)) hv) XF90 rfl XN90 rfl rfl ?_; rintro _ _ w21 ⟨o, r22, hv, hK⟩ hGw21 hS; cases o with
 | none =>
  obtain ⟨hn29, rfl, rfl⟩ := hK; have hv := hv hn29; have hS := hS.n0; refine Jb 6 <| Jd 4 <| Jd5 rfl rfl rfl ?_; rw [decide_eq_true hn29]; refine Ja <| Qa rfl <| Jd 2 <| JQ (cells := #[nI 0, .slice none 0 0]) Jkg rfl rfl rfl <| Jo rfl rfl <| Jw (cs := [nI 0, .slice none 0 0]) 1 hS rfl Qg rfl rfl rfl rfl rfl ?_; intro w30 hS; refine Jb 3 <| W.ret ?_; have hS := hS.mxNil 22 3; have hm0 := hS.mxlen (i := 0) rfl; have hS := hS.relenMx (i := 0) rfl hm0.symm; have hS := hS.nil (e := 3) (z := 1)
  change St _ _ _ _ [_, _, _, _, _, _] at hS
  repeat with_reducible first | refine blk.ret ?_ | refine exits.retI ?_
  refine endC.mk ⟨[.agg #[nI 0, .slice none 0 0], .slice none 0 0, nI r22], ⟨_, _, _, rfl, rfl, JB (cs := [nI 0, .slice none 0 0]) Qg Yt rfl (Ju (hS.own (i := 3) rfl)), ⟨_, _, rfl, rfl, ⟨_, _, rfl, rfl, rfl⟩⟩⟩, ?_⟩; exact ⟨_, hS.ext, (hS.pick [1, 0] rfl).rows, J4 (hS.pick [1, 0] rfl).rows rfl, ⟨(0 : Int), ([] : LL), ([] : LI), r22, none, 0, (fun _ => (none, 0)), none, 0, (by (try unfold nS); first | (rw [show (Value.slice none 0 0) = Value.slice none (([] : LL)).length 0 from sm0 hm0.symm]; done) | (rw [show (Value.slice none 0 0) = Value.slice none (([] : LL)).length 0 from sm0 hm0.symm]; rfl)), rfl, hv⟩⟩
 | some F23 =>
  obtain ⟨rfl, ad24, lo25, hi26, rfl, rfl⟩ := hK; have hS := hS.n1; refine Jb 6 <| Jd 6 <| QP rfl <| Jj <| Jd 3 <| JC 3 Qg Yt hS rfl ⟨rfl, rfl⟩ rfl <| SL.call hS (Jhp (GFX.gfr (hS.chunk (i := 0) rfl)) (RlH.rl (RlH.ext hHm hS.ext)) hv) XF91 rfl XN91 rfl rfl ?_; rintro _ _ w32 ⟨c33, x34, x35, A36, k37, hs38, A40, k41, rfl, rfl, hv⟩ hGw32 hS; have hS := hS.n2; refine Jb 3 <| SL.alloc (cs := [nI 0, .slice none 0 0]) hS Qg rfl rfl ?_; intro g43 w44 hS; refine Jw (cs := [nI c33, nS A36 x34 k37]) 0 hS rfl Qg rfl rfl rfl rfl rfl ?_; intro w45 hS; refine Jb 2 <| Jd 2 <| JC 0 Qg Yt hS rfl ⟨rfl, rfl⟩ rfl <| Jo rfl rfl <| Jw (cs := [nI c33, nS A36 x34 k37]) 5 hS rfl Qg rfl rfl rfl rfl rfl ?_; intro w46 hS; refine Jb 3 <| W.ret ?_; have hS := hS.pick [1, 0, 2, 3, 4, 5, 6, 7] rfl
  change St _ _ _ _ [_, _, _, _, _, _, _, _] at hS
  repeat with_reducible first | refine blk.ret ?_ | refine exits.retI ?_
  refine endC.mk ⟨[.agg #[nI c33, nS A36 x34 k37], nS A40 x35 k41, nI 0], ⟨_, _, _, rfl, rfl, JB (cs := [nI c33, nS A36 x34 k37]) Qg Yt rfl (Ju (hS.own (i := 5) rfl)), ⟨_, _, rfl, rfl, ⟨_, _, rfl, rfl, rfl⟩⟩⟩, ?_⟩; exact (hS.pick [0, 2] rfl).fin rfl ⟨c33, x34, x35, (0 : Int), A36, k37, hs38, A40, k41, rfl, rfl, hv⟩
end Go.Proofs.Ytgjloioccgcceaa
namespace Go.Proofs.Ytgjloioccgcceaa
open Go.RowKit
def Y6 (x : Int) (Q : Bool -> Prop) : Prop :=
  Q (decide (x ≠ 0))
theorem Jhm {w : World} {Q : Bool -> Prop} {x : Int}  (hv : Y6 x Q) :
  Calls Try.prog 101 #[.int .i64 x] w <| Rt w fun v Qr => ∃ (r0 : Bool), v = .bool r0 /\ Qr = [] /\ Q r0 := by
 refine Ji <| Jh (vs := [nI x]) [2] XF101 rfl rfl rfl rfl ?_; have hS := Jp w; unfold Y6 at hv; refine Jd 10 <| W.ret <| ⟨_, rfl, Fin.nil ?_⟩
 exact (hS.pick [] rfl).fin rfl ⟨(decide (x ≠ 0)), rfl, rfl, hv⟩
def Yk (Ca : Int) (a : LL) (Q : Bool -> Prop) : Prop :=
  ∃ (I19 : Int -> Int -> Prop) (μ20 : Int -> Int -> Nat), I19 (-1 : Int) (0 : Int) /\ ∀ (z17 : Int) (z18 : Int), (I19 z17 z18 -> (((z18 < (a.length : Int)) -> ((0 <= z18 /\ z18 < (a.length : Nat)) /\ (ZL (gl a z18) (fun xc Qc => Y6 xc  Qc) (fun r25 => ((r25 <= z17) -> Q false) /\ (¬ (r25 <= z17) -> ((0 <= r25 /\ r25 < ((gl a z18).length : Nat)) /\ ((((gi (gl a z18) r25) ≠ (1 : Int)) -> Q false) /\ (¬ ((gi (gl a z18) r25) ≠ (1 : Int)) -> (∃ (I32 : Int -> Prop) (μ33 : Int -> Nat), I32 0 /\ ∀ (z31 : Int), (I32 z31 -> (((z31 < (a.length : Int)) -> (∃ J37 : Bool -> Prop, ((0 <= z31 /\ z31 < (a.length : Nat)) /\ (((z31 ≠ z18) -> ((0 <= r25 /\ r25 < ((gl a z31).length : Nat)) /\ ((((gi (gl a z31) r25) ≠ (0 : Int)) -> Q false) /\ (¬ ((gi (gl a z31) r25) ≠ (0 : Int)) -> (J37 (decide ((gi (gl a z31) r25) ≠ (0 : Int)))))))) /\ (¬ (z31 ≠ z18) -> J37 false))) /\ ∀ (b36 : Bool), (J37 b36 -> ((I64 (z31 + 1)) /\ (I32 (z31 + 1) /\ μ33 (z31 + 1) < μ33 z31))))) /\ (¬ (z31 < (a.length : Int)) -> ((I64 (z18 + 1)) /\ (I19 r25 (z18 + 1) /\ μ20 r25 (z18 + 1) < μ20 z17 z18)))))))))))))) /\ (¬ (z18 < (a.length : Int)) -> Q true)))
theorem Jex {w : World} {Q : Bool -> Prop} {Ca : Int} {a : LL} {Aa : Option Addr} {na ka : Nat} (ha : Rl w Aa na ka a) (hv : Yk Ca a Q) :
   Calls Try.prog 89 #[.agg #[.int .i64 Ca, .slice Aa na ka]] w <| Rt w fun v Qr => ∃ (r0 : Bool), v = .bool r0 /\ Qr = [] /\ Q r0 := by
 have hna := ha.len; subst hna; obtain ⟨hsa, hHa⟩ := ha.heads; refine Ji <| Jh (vs := [.agg #[nI Ca, nS Aa a ka]]) [2] XF89 rfl rfl rfl rfl ?_; have hS := Jp w; unfold Yk at hv; refine Jd 2 <| JA (z := 2) (cs := [nI Ca, nS Aa a ka]) hS rfl rfl rfl rfl ?_; intro g11 w12 hS; refine Jb 2 <| Jd 7 <| Jc (off := 1) Qw rfl rfl <| Jl 0 1 Jr hS rfl rfl rfl ⟨rfl, rfl⟩ <| WL.len Jr rfl rfl <| Jb 2 <| W.block ?_; obtain ⟨I19, μ20, hv, hk47⟩ := hv; refine Jz (σ := Int × Int) (fun q w1 => match q with | (z17, z18) => I19 z17 z18 /\ St TT w none w1 [.row 59 2 (nA g11) 1 1 [nI Ca, nS Aa a ka]]) (fun (z17, z18) => [(1, nP g11), (2, .bool false), (3, nI z17), (10, nS Aa a ka), (11, nI (a.length : Int)), (12, nI z18)]) (fun (z17, z18) => μ20 z17 z18) ((-1 : Int), (0 : Int)) ⟨hv, hS⟩ ⟨rfl, rfl, rfl, rfl, rfl, rfl, trivial⟩ ?_; rintro ⟨z17, z18⟩ w21 ⟨hv, hS⟩; have hv := hk47 z17 z18 hv; refine Jd 5 <| Jf rfl (fun c22 => ?_) (fun c22 => ?_)
 .have hv := hv.1 (oT c22); refine Jj <| Jv <| W.block <| Jd 3 ?_; obtain ⟨o23, hv⟩ := hv; refine JT Jr Js hHa rfl rfl o23 rfl <| Jk Jn rfl rfl (hS.cell (RlH.cell hHa o23)) rfl <| Jb 3 <| Jd 3 <| SL.call hS (Jji (hS.ro (Qe hHa o23)) XF101 rfl XN101 (fun wc xc Qc hg hv => Jhm  hv) hv) XF93 rfl XN93 rfl rfl ?_; rintro _ _ w24 ⟨r25, rfl, rfl, hv⟩ hGw24 hS; have hS := hS.n0; refine Jb 2 <| Jd 6 <| Jo rfl rfl ?_; by_cases g26 : r25 <= z17
  .have hv := hv.1 g26; rw [decide_eq_true g26]; refine Jb 7 <| Qa rfl <| Jd 4 <| W.ret <| ⟨_, rfl, Fin.nil ?_⟩
   exact (hS.pick [] rfl).fin rfl ⟨false, rfl, rfl, hv⟩
  have hv := hv.2 g26; rw [decide_eq_false g26]; refine Jb 5 ?_; obtain ⟨o27, hv⟩ := hv; refine Jg Jn XE3 (hS.ro (Qe hHa o23)) rfl rfl o27 rfl <| WL.take rfl <| Jk XU3 rfl rfl (JH (hS.ro (Qe hHa o23)) o27) rfl <| Jb 4 <| Jf rfl (fun c28 => ?_) (fun c28 => ?_)
  .have hv := hv.1 (oT c28); refine Jd 4 <| W.ret <| ⟨_, rfl, Fin.nil ?_⟩
   exact (hS.pick [] rfl).fin rfl ⟨false, rfl, rfl, hv⟩
  have hv := hv.2 (oF c28); refine Jj <| Jd 3 <| Jc (off := 1) Qw rfl rfl <| Jl 0 1 Jr hS rfl rfl rfl ⟨rfl, rfl⟩ <| WL.len Jr rfl rfl <| Jb 2 <| W.block ?_; obtain ⟨I32, μ33, hv, hk46⟩ := hv; refine Jz (σ := Int) (fun z31 w1 => I32 z31 /\ St TT w none w1 [.row 59 2 (nA g11) 1 1 [nI Ca, nS Aa a ka]]) (fun z31 => [(1, nP g11), (2, .bool false), (3, nI z17), (4, nI z18), (5, .slice ((hsa z18.toNat).1) ((gl a z18).length) ((hsa z18.toNat).2)), (6, nI r25), (10, nS Aa a ka), (11, nI (a.length : Int)), (12, nI z18), (13, .bool (decide (z18 < (a.length : Int)))), (28, .bool (decide ((gi (gl a z18) r25) ≠ (1 : Int)))), (30, nS Aa a ka), (31, nI (a.length : Int)), (32, nI z31)]) (fun z31 => μ33 z31) (0 : Int) ⟨hv, hS⟩ ⟨rfl, rfl, rfl, rfl, rfl, rfl, rfl, rfl, rfl, rfl, rfl, rfl, rfl, rfl, trivial⟩ ?_; rintro z31 w34 ⟨hv, hS⟩; have hv := hk46 z31 hv; refine Jd 5 <| Jf rfl (fun c35 => ?_) (fun c35 => ?_)
  .have hv := hv.1 (oT c35); refine Jj <| Jv ?_; obtain ⟨J37, hv, hk44⟩ := hv; refine Qq (σ := Bool) (fun b36 w1 => J37 b36 /\ St TT w none w1 [.row 59 2 (nA g11) 1 1 [nI Ca, nS Aa a ka]]) (fun b36 => [(1, nP g11), (2, .bool false), (3, nI z17), (4, nI z18), (5, .slice ((hsa z18.toNat).1) ((gl a z18).length) ((hsa z18.toNat).2)), (6, nI r25), (7, nI z31), (8, .slice ((hsa z31.toNat).1) ((gl a z31).length) ((hsa z31.toNat).2)), (10, nS Aa a ka), (11, nI (a.length : Int)), (12, nI z18), (13, .bool (decide (z18 < (a.length : Int)))), (28, .bool (decide ((gi (gl a z18) r25) ≠ (1 : Int)))), (30, nS Aa a ka), (31, nI (a.length : Int)), (32, nI z31), (33, .bool (decide (z31 < (a.length : Int)))), (46, .bool b36)]) ?_ ?_
   .refine W.block ?_; refine Jd 3 ?_; obtain ⟨o38, hv⟩ := hv; refine JT Jr Js hHa rfl rfl o38 rfl <| Jk Jn rfl rfl (hS.cell (RlH.cell hHa o38)) rfl <| Jb 3 <| Jd 5 <| Jo rfl rfl ?_; by_cases g39 : z31 ≠ z18
    .have hv := hv.1 g39; rw [decide_eq_true g39]; refine Jb 5 ?_; obtain ⟨o40, hv⟩ := hv; refine Jg Jn XE3 (hS.ro (Qe hHa o38)) rfl rfl o40 rfl <| WL.take rfl <| Jk XU3 rfl rfl (JH (hS.ro (Qe hHa o38)) o40) rfl <| Jb 4 <| Jf rfl (fun c41 => ?_) (fun c41 => ?_)
     .have hv := hv.1 (oT c41); refine Jd 4 <| W.ret <| ⟨_, rfl, Fin.nil ?_⟩
      exact (hS.pick [] rfl).fin rfl ⟨false, rfl, rfl, hv⟩
     have hv := hv.2 (oF c41); refine Jj ?_; exact ⟨(decide ((gi (gl a z31) r25) ≠ (0 : Int))), sp rfl, rfl, hv, hS⟩
    have hv := hv.2 g39; rw [decide_eq_false g39]; refine Jb 7 <| QP rfl <| Jj ?_; exact ⟨false, sp rfl, rfl, hv, hS⟩
   rintro b36 w42 ⟨hv, hS⟩; have hv := hk44 b36 hv; refine JD ?_; obtain ⟨o43, hv⟩ := hv; refine WL.add (r := (z31 + 1)) rfl rfl (wr o43) rfl <| Jb 2 ?_; exact ⟨(z31 + 1), sp rfl, hv.2, rfl, hv.1, hS⟩
  have hv := hv.2 (oF c35); refine Jt <| Jd 4 <| JD ?_; obtain ⟨o45, hv⟩ := hv; refine WL.add (r := (z18 + 1)) rfl rfl (wr o45) rfl <| Jb 2 ?_; exact ⟨(r25, (z18 + 1)), sp rfl, hv.2, rfl, hv.1, hS⟩
 have hv := hv.2 (oF c22); refine Jt <| Jd 4 <| W.ret <| ⟨_, rfl, Fin.nil ?_⟩
 exact (hS.pick [] rfl).fin rfl ⟨true, rfl, rfl, hv⟩
def Jb3 (Pf : Int) (Mf : Int) (mf : LI) (Ca : Int) (a : LL) (Q : Int -> Prop) : Prop :=
  Jca Pf Mf mf Ca a (fun r16 => ((r16 ≠ 0) -> Q r16) /\ (¬ (r16 ≠ 0) -> (Yk Ca a (fun r19 => (((!r19) = true) -> (Q 5)) /\ ((!r19) = false -> (Q 0))))))
theorem Joj {w : World} {Q : Int -> Prop} {Pf : Int} {Mf : Int} {mf : LI} {Ca : Int} {a : LL} {Bf : Nat} {Af : Option Addr} {nf kf : Nat} (hf : Rd Bf w 1 Af nf kf (is mf)) {Aa : Option Addr} {na ka : Nat} (ha : Rl w Aa na ka a) (hv : Jb3 Pf Mf mf Ca a Q) :
   Calls Try.prog 64 #[.agg #[.int .i64 Pf, .int .i64 Mf, .slice Af nf kf], .agg #[.int .i64 Ca, .slice Aa na ka]] w <| Rt w fun v Qr => ∃ (r0 : Int), v = .int .i64 r0 /\ Qr = [] /\ Q r0 := by
 have hnf := hf.ilen; subst hnf; have hna := ha.len; subst hna; obtain ⟨hsa, hHa⟩ := ha.heads; refine Ji <| Jh (vs := [.agg #[nI Pf, nI Mf, nS Af mf kf], .agg #[nI Ca, nS Aa a ka]]) [4] XF64 rfl rfl rfl rfl ?_; have hS := Jp w; unfold Jb3 at hv; refine Jd 2 <| JA (z := 3) (cs := [nI Pf, nI Mf, nS Af mf kf]) hS rfl rfl rfl rfl ?_; intro g11 w12 hS; refine JA (z := 2) (cs := [nI Ca, nS Aa a ka]) hS rfl rfl rfl rfl ?_; intro g13 w14 hS; refine Jb 2 <| Jd 3 <| JC 1 JW JY hS rfl ⟨rfl, rfl⟩ rfl <| JC 0 Qg Yt hS rfl ⟨rfl, rfl⟩ rfl <| SL.call hS (Jop (hS.ro hf) (RlH.rl (RlH.ext hHa hS.ext)) hv) XF88 rfl XN88 rfl rfl ?_; rintro _ _ w15 ⟨r16, rfl, rfl, hv⟩ hGw15 hS; have hS := hS.n0; refine Jb 2 <| Jd 5 <| Jf rfl (fun c17 => ?_) (fun c17 => ?_)
 .have hv := hv.1 (oT c17); refine Jd 5 <| W.ret <| ⟨_, rfl, Fin.nil ?_⟩
  exact (hS.pick [] rfl).fin rfl ⟨r16, rfl, rfl, hv⟩
 have hv := hv.2 (oF c17); refine Jj <| Jd 3 <| JC 0 Qg Yt hS rfl ⟨rfl, rfl⟩ rfl <| SL.call hS (Jex (RlH.rl (RlH.ext hHa hS.ext)) hv) XF89 rfl XN89 rfl rfl ?_; rintro _ _ w18 ⟨r19, rfl, rfl, hv⟩ hGw18 hS; have hS := hS.n0; refine Jb 2 <| Jf rfl (fun c20 => ?_) (fun c20 => ?_)
 .have hv := hv.1 (c20); refine Jd 4 <| W.ret <| ⟨_, rfl, Fin.nil ?_⟩
  exact (hS.pick [] rfl).fin rfl ⟨(5 : Int), rfl, rfl, hv⟩
 have hv := hv.2 (c20); refine Jj <| Jd 4 <| W.ret <| ⟨_, rfl, Fin.nil ?_⟩
 exact (hS.pick [] rfl).fin rfl ⟨(0 : Int), rfl, rfl, hv⟩
end Go.Proofs.Ytgjloioccgcceaa
namespace Go.Proofs.Ytgjloioccgcceaa
open Go.RowKit
end Go.Proofs.Ytgjloioccgcceaa
namespace Go.Proofs.Ytgjloioccgcceaa
open Go.RowKit
def YP (n : Int) (Q : Bool -> Prop) : Prop :=
  (((1 : Int) <= n) -> (Q (decide (n <= 64)))) /\ (¬ ((1 : Int) <= n) -> Q false)
theorem Jdf {w : World} {Q : Bool -> Prop} {n : Int}  (hv : YP n Q) :
   Calls Try.prog 63 #[.int .i64 n] w <| Rt w fun v Qr => ∃ (r0 : Bool), v = .bool r0 /\ Qr = [] /\ Q r0 := by
 refine Ji <| Jh (vs := [nI n]) [2] XF63 rfl rfl rfl rfl ?_; have hS := Jp w; unfold YP at hv; refine Jd 8 <| Jo rfl rfl ?_; by_cases g11 : (1 : Int) <= n
 .have hv := hv.1 g11; rw [decide_eq_true g11]; refine Jb 7 <| W.ret <| ⟨_, rfl, Fin.nil ?_⟩
  exact (hS.pick [] rfl).fin rfl ⟨(decide (n <= 64)), rfl, rfl, hv⟩
 have hv := hv.2 g11; rw [decide_eq_false g11]; refine Jb 5 <| W.ret <| ⟨_, rfl, Fin.nil ?_⟩
 exact (hS.pick [] rfl).fin rfl ⟨false, rfl, rfl, hv⟩
def Jdk (Pc : Int) (Mc : Int) (mc : LI) (Nc : Int) (c : LL) (Q : Unit -> Prop) : Prop :=
  Q ()
theorem Jhn {w : World} {Q : Unit -> Prop} {Pc : Int} {Mc : Int} {mc : LI} {Nc : Int} {c : LL} {Bcf : Nat} {Acf : Option Addr} {ncf kcf : Nat} (hcf : Rd Bcf w 1 Acf ncf kcf (is mc)) {Ac : Option Addr} {nc kc : Nat} (hc : Rl w Ac nc kc c) (hv : Jdk Pc Mc mc Nc c Q) :
  Calls Try.prog 65 #[.agg #[.int .i64 Pc, .int .i64 Mc, .slice Acf ncf kcf, .int .i64 Nc, .slice Ac nc kc]] w <| Rt w fun v Qr => v = .agg #[.int .i64 Nc, .slice Ac c.length kc] /\ Qr = [] /\ Q () := by
 have hncf := hcf.ilen; subst hncf; have hnc := hc.len; subst hnc; obtain ⟨hsc, hHc⟩ := hc.heads; refine Ji <| J8 (vs := [.agg #[nI Pc, nI Mc, nS Acf mc kcf, nI Nc, nS Ac c kc]]) [.cell 2 59] XF65 rfl rfl rfl rfl ?_; have hS := Jp w; unfold Jdk at hv; refine Jd 2 <| JA (z := 5) (cs := [nI Pc, nI Mc, nS Acf mc kcf, nI Nc, nS Ac c kc]) hS rfl rfl rfl rfl ?_; intro g11 w12 hS; refine SL.alloc (cs := [nI 0, .slice none 0 0]) hS Qg rfl rfl ?_; intro g13 w14 hS; refine Ja <| Jd 2 <| Jc (off := 3) Qm rfl rfl <| Jl 1 3 XU3 hS rfl rfl rfl ⟨rfl, rfl⟩ <| Jc (off := 4) QH rfl rfl <| Jl 1 4 Jr hS rfl rfl rfl ⟨rfl, rfl⟩ <| JQ (cells := #[nI Nc, nS Ac c kc]) Jkg rfl rfl rfl <| Jw (cs := [nI Nc, nS Ac c kc]) 0 hS rfl Qg rfl rfl rfl rfl rfl ?_; intro w15 hS; refine Ja <| W.ret ?_
 repeat with_reducible first | refine blk.ret ?_ | refine exits.retI ?_
 refine endC.mk ⟨[.agg #[nI Nc, nS Ac c kc]], ⟨_, _, _, rfl, rfl, JB (cs := [nI Nc, nS Ac c kc]) Qg Yt rfl (Ju (hS.own (i := 0) rfl)), rfl⟩, ?_⟩; exact (hS.pick [] rfl).fin rfl ⟨rfl, rfl, hv⟩
def Jce (Pc : Int) (Mc : Int) (mc : LI) (Nc : Int) (c : LL) (Q : Int -> Prop) : Prop :=
  Jcd Pc Mc mc (fun r14 => ((r14 ≠ 0) -> Q r14) /\ (¬ (r14 ≠ 0) -> (YP Nc (fun r17 => (((!r17) = true) -> (Q 4)) /\ ((!r17) = false -> (∃ (r25 : Int), Jb3 Pc Mc mc Nc c (fun q => q = r25) /\ Q r25))))))
theorem Jos {w : World} {Q : Int -> Prop} {Pc : Int} {Mc : Int} {mc : LI} {Nc : Int} {c : LL} {Bcf : Nat} {Acf : Option Addr} {ncf kcf : Nat} (hcf : Rd Bcf w 1 Acf ncf kcf (is mc)) {Ac : Option Addr} {nc kc : Nat} (hc : Rl w Ac nc kc c) (hv : Jce Pc Mc mc Nc c Q) :
   Calls Try.prog 43 #[.agg #[.int .i64 Pc, .int .i64 Mc, .slice Acf ncf kcf, .int .i64 Nc, .slice Ac nc kc]] w <| Rt w fun v Qr => ∃ (r0 : Int), v = .int .i64 r0 /\ Qr = [] /\ Q r0 := by
 have hncf := hcf.ilen; subst hncf; have hnc := hc.len; subst hnc; obtain ⟨hsc, hHc⟩ := hc.heads; refine Ji <| Jh (vs := [.agg #[nI Pc, nI Mc, nS Acf mc kcf, nI Nc, nS Ac c kc]]) [2] XF43 rfl rfl rfl rfl ?_; have hS := Jp w; unfold Jce at hv; refine Jd 2 <| JA (z := 5) (cs := [nI Pc, nI Mc, nS Acf mc kcf, nI Nc, nS Ac c kc]) hS rfl rfl rfl rfl ?_; intro g11 w12 hS; refine Jb 2 <| Jd 3 <| Jc (off := 0) QI rfl rfl <| J0 (cs := [nI Pc, nI Mc, nS Acf mc kcf]) JW JY rfl rfl (QR (hS.rd (i := 0) rfl) 0 rfl) rfl <| SL.call hS (Jjm (hS.ro hcf) hv) XF47 rfl XN47 rfl rfl ?_; rintro _ _ w13 ⟨r14, rfl, rfl, hv⟩ hGw13 hS; have hS := hS.n0; refine Jb 2 <| Jd 5 <| Jf rfl (fun c15 => ?_) (fun c15 => ?_)
 .have hv := hv.1 (oT c15); refine Jd 5 <| W.ret <| ⟨_, rfl, Fin.nil ?_⟩
  exact (hS.pick [] rfl).fin rfl ⟨r14, rfl, rfl, hv⟩
 have hv := hv.2 (oF c15); refine Jj <| Jd 3 <| Jc (off := 3) Qm rfl rfl <| Jl 0 3 XU3 hS rfl rfl rfl ⟨rfl, rfl⟩ <| SL.call hS (Jdf  hv) XF63 rfl XN63 rfl rfl ?_; rintro _ _ w16 ⟨r17, rfl, rfl, hv⟩ hGw16 hS; have hS := hS.n0; refine Jb 2 <| Jf rfl (fun c18 => ?_) (fun c18 => ?_)
 .have hv := hv.1 (c18); refine Jd 4 <| W.ret <| ⟨_, rfl, Fin.nil ?_⟩
  exact (hS.pick [] rfl).fin rfl ⟨(4 : Int), rfl, rfl, hv⟩
 have hv := hv.2 (c18); refine Jj <| Jv ?_; obtain ⟨r25, o27, hv⟩ := hv; refine JP 6 [⟨[], [1], true⟩, ⟨[0], [], false⟩, ⟨[], [1], false⟩, ⟨[2], [], false⟩, ⟨[1, 3], [], false⟩, ⟨[4], [], true⟩] [(14, nP g11), (15, .agg #[nI Pc, nI Mc, nS Acf mc kcf]), (16, .agg #[nI Pc, nI Mc, nS Acf mc kcf, nI Nc, nS Ac c kc]), (17, .agg #[nI Nc, nS Ac c kc]), (18, nI r25), (2, nI r25)] Try.mixed (by kernel_rfl) rfl rfl ?_ ?_
 . refine ⟨fun _ _ _ => Jc (off := 0) QI rfl rfl <| Ja ⟨rfl, rfl⟩, og hS fun _ _ hS => J0 (cs := [nI Pc, nI Mc, nS Acf mc kcf]) JW JY rfl rfl (QR (hS.rd (i := 0) rfl) 0 rfl) rfl <| Ja ⟨rfl, Je _⟩, og hS fun _ _ hS => JC 0 JJ Qf hS rfl ⟨rfl, rfl⟩ rfl <| Ja ⟨rfl, Je _⟩, ?_, ?_, oD, trivial⟩
   .intro w22 hE RR; have hS := hS.grow (hE rfl); refine WL.call XF65 rfl XN65 rfl rfl (JO (Jhn (Q := fun _ => True) (hS.ro hcf) (RlH.rl (RlH.ext hHc hS.ext)) trivial)) ?_; rintro _ w23 ⟨_, hGw23, hRww23, hNww23, rfl, rfl, _⟩; exact Ja ⟨rfl, hGw23⟩
   intro w24 hE RR; have hS := hS.grow (hE rfl); refine WL.call XF64 rfl XN64 rfl rfl (JO (Joj (hS.ro hcf) (RlH.rl (RlH.ext hHc hS.ext)) o27)) ?_; rintro _ w26 ⟨_, hGw26, hRww26, hNww26, r25q, rfl, rfl, he⟩; subst he; exact Ja ⟨rfl, hGw26⟩
 intro w29 hT; have hS := hS.grow hT; refine JL <| W.ret <| ⟨_, rfl, Fin.nil ?_⟩
 exact (hS.pick [] rfl).fin rfl ⟨r25, rfl, rfl, hv⟩
def Jc6 (Pf : Int) (Mf : Int) (mf : LI) (Cm : Int) (m : LL) (e : Int) (Q : Option LI × Int -> Prop) : Prop :=
  ((e ≠ 0) -> (Q (none, e))) /\ (¬ (e ≠ 0) -> (Y7 mf (fun x20 => Q (some x20, (0 : Int)))))
theorem Jm9 {w : World} {Q : Option LI × Int -> Prop} {Pf : Int} {Mf : Int} {mf : LI} {Cm : Int} {m : LL} {e : Int} {Bf : Nat} {Af : Option Addr} {nf kf : Nat} (hf : Rd Bf w 1 Af nf kf (is mf)) {Am : Option Addr} {nm km : Nat} (hm : Rl w Am nm km m) (hv : Jc6 Pf Mf mf Cm m e Q) :
   Calls Try.prog 67 #[.agg #[.int .i64 Pf, .int .i64 Mf, .slice Af nf kf], .agg #[.int .i64 Cm, .slice Am nm km], .int .i64 e] w <| Rt w fun v Qr => ∃ (o : Option LI) (e2 : Int), Q (o, e2) /\ match o with | none => v = .tuple #[.agg #[.int .i64 0, .int .i64 0, .slice none 0 0, .int .i64 0, .slice none 0 0], .int .i64 e2] /\ Qr = [] | some x => ∃ (A : Option Addr) (c : Nat), v = .tuple #[.agg #[.int .i64 Pf, .int .i64 Mf, .slice A x.length c, .int .i64 Cm, .slice Am m.length km], .int .i64 0] /\ Qr = [.row 3 1 A x.length c (is x)] /\ e2 = 0 := by
 have hnf := hf.ilen; subst hnf; have hnm := hm.len; subst hnm; obtain ⟨hsm, hHm⟩ := hm.heads; refine Ji <| J8 (vs := [.agg #[nI Pf, nI Mf, nS Af mf kf], .agg #[nI Cm, nS Am m km], nI e]) [.cell 6 27, .tmp 7] XF67 rfl rfl rfl rfl ?_; have hS := Jp w; unfold Jc6 at hv; refine Jd 2 <| JA (z := 3) (cs := [nI Pf, nI Mf, nS Af mf kf]) hS rfl rfl rfl rfl ?_; intro g11 w12 hS; refine JA (z := 2) (cs := [nI Cm, nS Am m km]) hS rfl rfl rfl rfl ?_; intro g13 w14 hS; refine SL.alloc (cs := [nI 0, nI 0, .slice none 0 0, nI 0, .slice none 0 0]) hS JJ rfl rfl ?_; intro g15 w16 hS; refine Jb 2 <| Jd 6 <| Jf rfl (fun c17 => ?_) (fun c17 => ?_)
 .have hv := hv.1 (oT c17); refine Jd 2 <| JQ (cells := #[nI 0, nI 0, .slice none 0 0, nI 0, .slice none 0 0]) Jaz rfl rfl rfl <| Jo rfl rfl <| Jw (cs := [nI 0, nI 0, .slice none 0 0, nI 0, .slice none 0 0]) 0 hS rfl JJ rfl rfl rfl rfl rfl ?_; intro w18 hS; refine Jb 2 <| W.ret ?_
  repeat with_reducible first | refine blk.ret ?_ | refine exits.retI ?_
  refine endC.mk ⟨[.agg #[nI 0, nI 0, .slice none 0 0, nI 0, .slice none 0 0], nI e], ⟨_, _, _, rfl, rfl, JB (cs := [nI 0, nI 0, .slice none 0 0, nI 0, .slice none 0 0]) JJ Qf rfl (Ju (hS.own (i := 0) rfl)), ⟨_, _, rfl, rfl, rfl⟩⟩, ?_⟩; exact (hS.pick [] rfl).fin rfl ⟨none, e, hv, rfl, rfl⟩
 have hv := hv.2 (oF c17); refine Jj <| Jd 2 <| Jc (off := 2) Qk rfl rfl <| Jl 2 2 Jn hS rfl rfl rfl ⟨rfl, rfl⟩ <| SL.call hS (ZU (hS.ro hf) hv) Jpm rfl XN73 rfl rfl ?_; rintro _ _ w19 ⟨x20, A21, k22, rfl, rfl, hv⟩ hGw19 hS; have hS := hS.n1; refine Jc (off := 2) Qk rfl rfl <| JG (cs' := [nI Pf, nI Mf, nS A21 x20 k22]) 3 2 hS rfl Js rfl rfl rfl (QT rfl) rfl ?_; intro w24 hS; refine Ja <| Jd 2 <| JC 3 JW JY hS rfl ⟨rfl, rfl⟩ rfl <| Jc (off := 0) Yd rfl rfl <| Jl 2 0 XU3 hS rfl rfl rfl ⟨rfl, rfl⟩ <| Jc (off := 1) Qw rfl rfl <| Jl 2 1 Jr hS rfl rfl rfl ⟨rfl, rfl⟩ <| JQ (cells := #[nI Pf, nI Mf, nS A21 x20 k22, nI Cm, nS Am m km]) Jaz rfl rfl rfl <| Jw (cs := [nI Pf, nI Mf, nS A21 x20 k22, nI Cm, nS Am m km]) 1 hS rfl JJ rfl rfl rfl rfl rfl ?_; intro w25 hS; refine Jb 2 <| W.ret ?_
 repeat with_reducible first | refine blk.ret ?_ | refine exits.retI ?_
 refine endC.mk ⟨[.agg #[nI Pf, nI Mf, nS A21 x20 k22, nI Cm, nS Am m km], nI 0], ⟨_, _, _, rfl, rfl, JB (cs := [nI Pf, nI Mf, nS A21 x20 k22, nI Cm, nS Am m km]) JJ Qf rfl (Ju (hS.own (i := 1) rfl)), ⟨_, _, rfl, rfl, rfl⟩⟩, ?_⟩; exact (hS.pick [0] rfl).fin rfl ⟨some x20, 0, hv, A21, k22, rfl, rfl, rfl⟩
def Jiq (Pf : Int) (Mf : Int) (mf : LI) (Cm : Int) (m : LL) (Q : Int × Int × LI × Int × LL × Int -> Prop) : Prop :=
  Za Pf Mf mf Cm m (fun (c18, x19, x20, r21) => ((r21 = 0) -> (YP Cm (fun r34 => ∃ J36 : Int -> Prop, ((((!r34) = true) -> (J36 4)) /\ ((!r34) = false -> J36 r21)) /\ ∀ (z35 : Int), (J36 z35 -> (Jc6 Pf Mf mf c18 x19 z35 (fun q => match q with | (none, r41) => (Q ((0 : Int), (0 : Int), ([] : LI), (0 : Int), ([] : LL), r41)) | (some x42, _) => Q (Pf, Mf, x42, c18, x19, (0 : Int)))))))) /\ (¬ (r21 = 0) -> (Jc6 Pf Mf mf c18 x19 r21 (fun q => match q with | (none, r52) => (Q ((0 : Int), (0 : Int), ([] : LI), (0 : Int), ([] : LL), r52)) | (some x53, _) => Q (Pf, Mf, x53, c18, x19, (0 : Int))))))
theorem Jt3 {w : World} {Q : Int × Int × LI × Int × LL × Int -> Prop} {Pf : Int} {Mf : Int} {mf : LI} {Cm : Int} {m : LL} {Bf : Nat} {Af : Option Addr} {nf kf : Nat} (hf : Rd Bf w 1 Af nf kf (is mf)) {Am : Option Addr} {nm km : Nat} (hm : Rl w Am nm km m) (hv : Jiq Pf Mf mf Cm m Q) :
   Calls Try.prog 46 #[.agg #[.int .i64 Pf, .int .i64 Mf, .slice Af nf kf], .agg #[.int .i64 Cm, .slice Am nm km]] w <| Rt w fun v Qr => ∃ (p0 : Int) (m0 : Int) (f0 : LI) (c0 : Int) (r0 : LL) (r1 : Int) (A0f : Option Addr) (k0f : Nat) (A0 : Option Addr) (k0 : Nat) (hs0 : Hs), v = .tuple #[.agg #[.int .i64 p0, .int .i64 m0, .slice A0f f0.length k0f, .int .i64 c0, .slice A0 r0.length k0], .int .i64 r1] /\ Qr = [.row 3 1 A0f f0.length k0f (is f0), mx 22 3 A0 r0.length k0 hs0 r0] /\ Q (p0, m0, f0, c0, r0, r1) := by
 have hnf := hf.ilen; subst hnf; have hnm := hm.len; subst hnm; obtain ⟨hsm, hHm⟩ := hm.heads; refine Ji <| J8 (vs := [.agg #[nI Pf, nI Mf, nS Af mf kf], .agg #[nI Cm, nS Am m km]]) [.cell 4 27, .tmp 5] XF46 rfl rfl rfl rfl ?_; have hS := Jp w; unfold Jiq at hv; refine Jd 2 <| JA (z := 3) (cs := [nI Pf, nI Mf, nS Af mf kf]) hS rfl rfl rfl rfl ?_; intro g11 w12 hS; refine JA (z := 2) (cs := [nI Cm, nS Am m km]) hS rfl rfl rfl rfl ?_; intro g13 w14 hS; refine SL.alloc (cs := [nI 0, nI 0, .slice none 0 0, nI 0, .slice none 0 0]) hS JJ rfl rfl ?_; intro g15 w16 hS; refine Jb 2 <| Jd 2 <| JC 2 JW JY hS rfl ⟨rfl, rfl⟩ rfl <| JC 1 Qg Yt hS rfl ⟨rfl, rfl⟩ rfl <| SL.call hS (Jhs (hS.ro hf) (RlH.rl (RlH.ext hHm hS.ext)) hv) XF66 rfl XN66 rfl rfl ?_; rintro _ _ w17 ⟨c18, x19, x20, r21, A22, k23, hs24, A26, k27, rfl, rfl, hv⟩ hGw17 hS; have hS := hS.n2; refine Jb 4 <| SL.alloc (cs := [nI 0, .slice none 0 0]) hS Qg rfl rfl ?_; intro g29 w30 hS; refine Jw (cs := [nI c18, nS A22 x19 k23]) 0 hS rfl Qg rfl rfl rfl rfl rfl ?_; intro w31 hS; refine Jb 3 <| Jd 5 <| Jo rfl rfl ?_; by_cases g32 : r21 = 0
 .have hv := hv.1 g32; rw [decide_eq_true g32]; refine WL.take rfl <| Jc (off := 0) Yd rfl rfl <| WL.take rfl <| Jl 4 0 XU3 hS rfl rfl rfl ⟨rfl, rfl⟩ <| WL.take rfl <| SL.call hS (Jdf  hv) XF63 rfl XN63 rfl rfl ?_; rintro _ _ w33 ⟨r34, rfl, rfl, hv⟩ hGw33 hS; have hS := hS.n0; refine Jb 4 ?_; obtain ⟨J36, hv, hk49⟩ := hv; refine Qq (σ := Int) (fun z35 w1 => J36 z35 /\ St TT w none w1 [.row 59 2 (nA g29) 1 1 [nI c18, nS A22 x19 k23], mx 22 3 A22 x19.length k23 hs24 x19, nR 3 A26 x20 k27, .row 27 5 (nA g15) 1 1 [nI 0, nI 0, .slice none 0 0, nI 0, .slice none 0 0], .row 59 2 (nA g13) 1 1 [nI Cm, nS Am m km], .row 24 3 (nA g11) 1 1 [nI Pf, nI Mf, nS Af mf kf]]) (fun z35 => [(2, nP g11), (4, nP g15), (5, nI 0), (6, nP g29), (8, nI z35)]) ?_ ?_
  .refine Jf rfl (fun c37 => ?_) (fun c37 => ?_)
   .have hv := hv.1 (c37); refine Jd 3 ?_; exact ⟨(4 : Int), sp rfl, rfl, hv, hS⟩
   have hv := hv.2 (c37); refine Jj ?_; exact ⟨r21, sp rfl, rfl, hv, hS⟩
  rintro z35 w38 ⟨hv, hS⟩; have hv := hk49 z35 hv; refine Jd 2 <| JC 5 JW JY hS rfl ⟨rfl, rfl⟩ rfl <| JC 0 Qg Yt hS rfl ⟨rfl, rfl⟩ rfl <| Jo rfl rfl <| SL.call hS (Jm9 (hS.ro hf) (hS.rl (i := 1) rfl) hv) XF67 rfl XN67 rfl rfl ?_; rintro _ _ w40 ⟨o, r41, hv, hK⟩ hGw40 hS; cases o with
  | none =>
   obtain ⟨rfl, rfl⟩ := hK; have hS := hS.n0; refine Jb 2 <| Jw (cs := [nI 0, nI 0, .slice none 0 0, nI 0, .slice none 0 0]) 3 hS rfl JJ rfl rfl rfl rfl rfl ?_; intro w46 hS; refine Jb 2 <| W.ret ?_; have hS := hS.nil (e := 3) (z := 1); have hS := hS.mxNil 22 3; have hm4 := hS.mxlen (i := 0) rfl; have hS := hS.relenMx (i := 0) rfl hm4.symm
   change St _ _ _ _ [_, _, _, _, _, _, _, _] at hS
   repeat with_reducible first | refine blk.ret ?_ | refine exits.retI ?_
   refine endC.mk ⟨[.agg #[nI 0, nI 0, .slice none 0 0, nI 0, .slice none 0 0], nI r41], ⟨_, _, _, rfl, rfl, JB (cs := [nI 0, nI 0, .slice none 0 0, nI 0, .slice none 0 0]) JJ Qf rfl (Ju (hS.own (i := 5) rfl)), ⟨_, _, rfl, rfl, rfl⟩⟩, ?_⟩; exact ⟨_, hS.ext, (hS.pick [1, 0] rfl).rows, J4 (hS.pick [1, 0] rfl).rows rfl, ⟨(0 : Int), (0 : Int), ([] : LI), (0 : Int), ([] : LL), r41, none, 0, none, 0, (fun _ => (none, 0)), (by (try unfold nS); first | (rw [show (Value.slice none 0 0) = Value.slice none (([] : LL)).length 0 from sm0 hm4.symm]; done) | (rw [show (Value.slice none 0 0) = Value.slice none (([] : LL)).length 0 from sm0 hm4.symm]; rfl)), rfl, hv⟩⟩
  | some x42 =>
   obtain ⟨A43, k44, rfl, rfl, rfl⟩ := hK; have hS := hS.n1; refine Jb 2 <| Jw (cs := [nI Pf, nI Mf, nS A43 x42 k44, nI c18, nS A22 x19 k23]) 4 hS rfl JJ rfl rfl rfl rfl rfl ?_; intro w48 hS; refine Jb 2 <| W.ret ?_; have hS := hS.pick [2, 0, 1, 3, 4, 5, 6] rfl
   change St _ _ _ _ [_, _, _, _, _, _, _] at hS
   repeat with_reducible first | refine blk.ret ?_ | refine exits.retI ?_
   refine endC.mk ⟨[.agg #[nI Pf, nI Mf, nS A43 x42 k44, nI c18, nS A22 x19 k23], nI 0], ⟨_, _, _, rfl, rfl, JB (cs := [nI Pf, nI Mf, nS A43 x42 k44, nI c18, nS A22 x19 k23]) JJ Qf rfl (Ju (hS.own (i := 4) rfl)), ⟨_, _, rfl, rfl, rfl⟩⟩, ?_⟩; exact (hS.pick [1, 0] rfl).fin rfl ⟨Pf, Mf, x42, c18, x19, (0 : Int), A43, k44, A22, k23, hs24, rfl, rfl, hv⟩
 have hv := hv.2 g32; rw [decide_eq_false g32]; refine Jb 6 <| QP rfl <| Jj <| Jd 2 <| JC 5 JW JY hS rfl ⟨rfl, rfl⟩ rfl <| JC 0 Qg Yt hS rfl ⟨rfl, rfl⟩ rfl <| Jo rfl rfl <| SL.call hS (Jm9 (hS.ro hf) (hS.rl (i := 1) rfl) hv) XF67 rfl XN67 rfl rfl ?_; rintro _ _ w51 ⟨o, r52, hv, hK⟩ hGw51 hS; cases o with
 | none =>
  obtain ⟨rfl, rfl⟩ := hK; have hS := hS.n0; refine Jb 2 <| Jw (cs := [nI 0, nI 0, .slice none 0 0, nI 0, .slice none 0 0]) 3 hS rfl JJ rfl rfl rfl rfl rfl ?_; intro w57 hS; refine Jb 2 <| W.ret ?_; have hS := hS.nil (e := 3) (z := 1); have hS := hS.mxNil 22 3; have hm4 := hS.mxlen (i := 0) rfl; have hS := hS.relenMx (i := 0) rfl hm4.symm
  change St _ _ _ _ [_, _, _, _, _, _, _, _] at hS
  repeat with_reducible first | refine blk.ret ?_ | refine exits.retI ?_
  refine endC.mk ⟨[.agg #[nI 0, nI 0, .slice none 0 0, nI 0, .slice none 0 0], nI r52], ⟨_, _, _, rfl, rfl, JB (cs := [nI 0, nI 0, .slice none 0 0, nI 0, .slice none 0 0]) JJ Qf rfl (Ju (hS.own (i := 5) rfl)), ⟨_, _, rfl, rfl, rfl⟩⟩, ?_⟩; exact ⟨_, hS.ext, (hS.pick [1, 0] rfl).rows, J4 (hS.pick [1, 0] rfl).rows rfl, ⟨(0 : Int), (0 : Int), ([] : LI), (0 : Int), ([] : LL), r52, none, 0, none, 0, (fun _ => (none, 0)), (by (try unfold nS); first | (rw [show (Value.slice none 0 0) = Value.slice none (([] : LL)).length 0 from sm0 hm4.symm]; done) | (rw [show (Value.slice none 0 0) = Value.slice none (([] : LL)).length 0 from sm0 hm4.symm]; rfl)), rfl, hv⟩⟩
 | some x53 =>
  obtain ⟨A54, k55, rfl, rfl, rfl⟩ := hK; have hS := hS.n1; refine Jb 2 <| Jw (cs := [nI Pf, nI Mf, nS A54 x53 k55, nI c18, nS A22 x19 k23]) 4 hS rfl JJ rfl rfl rfl rfl rfl ?_; intro w59 hS; refine Jb 2 <| W.ret ?_; have hS := hS.pick [2, 0, 1, 3, 4, 5, 6] rfl
  change St _ _ _ _ [_, _, _, _, _, _, _] at hS
  repeat with_reducible first | refine blk.ret ?_ | refine exits.retI ?_
  refine endC.mk ⟨[.agg #[nI Pf, nI Mf, nS A54 x53 k55, nI c18, nS A22 x19 k23], nI 0], ⟨_, _, _, rfl, rfl, JB (cs := [nI Pf, nI Mf, nS A54 x53 k55, nI c18, nS A22 x19 k23]) JJ Qf rfl (Ju (hS.own (i := 4) rfl)), ⟨_, _, rfl, rfl, rfl⟩⟩, ?_⟩; exact (hS.pick [1, 0] rfl).fin rfl ⟨Pf, Mf, x53, c18, x19, (0 : Int), A54, k55, A22, k23, hs24, rfl, rfl, hv⟩
end Go.Proofs.Ytgjloioccgcceaa
namespace Go.Proofs.Ytgjloioccgcceaa
open Go.RowKit
def YR (l : List Ct) (Q : Int -> Prop) : Prop :=
  ∃ (I14 : Int -> Prop) (μ15 : Int -> Nat), I14 0 /\ ∀ (z13 : Int), (I14 z13 -> (((z13 < (l.length : Int)) -> ((0 <= z13 /\ z13 < (l.length : Nat)) /\ (Jce ((gc l z13).1) ((gc l z13).2.1) ((gc l z13).2.2.1) ((gc l z13).2.2.2.1) ((gc l z13).2.2.2.2) (fun r23 => ((r23 ≠ 0) -> Q r23) /\ (¬ (r23 ≠ 0) -> ((I64 (z13 + 1)) /\ (I14 (z13 + 1) /\ μ15 (z13 + 1) < μ15 z13))))))) /\ (¬ (z13 < (l.length : Int)) -> (Q 0))))
theorem Jgd {w : World} {Q : Int -> Prop} {l : List Ct} {Al : Option Addr} {nl kl : Nat} {Hl : HC} (hcl : Rc w Al nl kl Hl l) (hv : YR l Q) :
   Calls Try.prog 25 #[.slice Al nl kl] w <| Rt w fun v Qr => ∃ (r0 : Int), v = .int .i64 r0 /\ Qr = [] /\ Q r0 := by
 have hnl := hcl.len; subst hnl; refine Ji <| Jh (vs := [nS Al l kl]) [2] XF25 rfl rfl rfl rfl ?_; have hS := Jp w; unfold YR at hv; refine Jd 8 <| WL.len Jih rfl rfl <| Jb 2 <| W.block ?_; obtain ⟨I14, μ15, hv, hk26⟩ := hv; refine Jz (σ := Int) (fun z13 w1 => I14 z13 /\ St TT w none w1 []) (fun z13 => [(2, nI 0), (6, nS Al l kl), (7, nI (l.length : Int)), (8, nI z13)]) (fun z13 => μ15 z13) (0 : Int) ⟨hv, hS⟩ ⟨rfl, rfl, rfl, rfl, trivial⟩ ?_; rintro z13 w16 ⟨hv, hS⟩; have hv := hk26 z13 hv; refine Jd 5 <| Jf rfl (fun c17 => ?_) (fun c17 => ?_)
 .have hv := hv.1 (oT c17); refine Jj <| Jv <| W.block <| Jd 2 ?_; obtain ⟨o18, hv⟩ := hv; refine Jc8 Jih JJ (Rc.ext hcl hS.ext) rfl rfl o18 rfl <| J0 (cs := [nI ((gc l z13).1), nI ((gc l z13).2.1), .slice ((Hl z13.toNat).1.1) ((gc l z13).2.2.1.length) ((Hl z13.toNat).1.2), nI ((gc l z13).2.2.2.1), .slice ((Hl z13.toNat).2.1.1) ((gc l z13).2.2.2.2.length) ((Hl z13.toNat).2.1.2)]) JJ Qf rfl rfl (QR (Rc.cells (Rc.ext hcl hS.ext) o18) 0 rfl) rfl <| SL.alloc (cs := [nI 0, nI 0, .slice none 0 0, nI 0, .slice none 0 0]) hS JJ rfl rfl ?_; intro g19 w20 hS; refine Jw (cs := [nI ((gc l z13).1), nI ((gc l z13).2.1), .slice ((Hl z13.toNat).1.1) ((gc l z13).2.2.1.length) ((Hl z13.toNat).1.2), nI ((gc l z13).2.2.2.1), .slice ((Hl z13.toNat).2.1.1) ((gc l z13).2.2.2.2.length) ((Hl z13.toNat).2.1.2)]) 0 hS rfl JJ rfl rfl rfl rfl rfl ?_; intro w21 hS; refine Ja <| Jd 2 <| JC 0 JJ Qf hS rfl ⟨rfl, rfl⟩ rfl <| SL.call hS (Jos (hS.ro (Jn3 hcl o18)) (RlH.rl (RlH.ext (Jn2 hcl o18) hS.ext)) hv) XF43 rfl XN43 rfl rfl ?_; rintro _ _ w22 ⟨r23, rfl, rfl, hv⟩ hGw22 hS; have hS := hS.n0; refine Jb 2 <| Jd 5 <| Jf rfl (fun c24 => ?_) (fun c24 => ?_)
  .have hv := hv.1 (oT c24); refine Jd 5 <| W.ret <| ⟨_, rfl, Fin.nil ?_⟩
   exact (hS.pick [] rfl).fin rfl ⟨r23, rfl, rfl, hv⟩
  have hv := hv.2 (oF c24); refine Jj <| JD ?_; obtain ⟨o25, hv⟩ := hv; refine WL.add (r := (z13 + 1)) rfl rfl (wr o25) rfl <| Jb 2 ?_; have hS := hS.pick [] rfl; exact ⟨(z13 + 1), sp rfl, hv.2, rfl, hv.1, hS⟩
 have hv := hv.2 (oF c17); refine Jt <| Jd 4 <| W.ret <| ⟨_, rfl, Fin.nil ?_⟩
 exact (hS.pick [] rfl).fin rfl ⟨(0 : Int), rfl, rfl, hv⟩
def Q2 (Pf : Int) (Mf : Int) (mf : LI) (n : Int) (l : LL) (Q : Int × Int × LI × Int × LL × Int -> Prop) : Prop :=
  Jiq Pf Mf mf n l (fun (r16, r17, x18, c19, x20, r21) => Q (r16, r17, x18, c19, x20, r21))
theorem Zw {w : World} {Q : Int × Int × LI × Int × LL × Int -> Prop} {Pf : Int} {Mf : Int} {mf : LI} {n : Int} {l : LL} {Bf : Nat} {Af : Option Addr} {nf kf : Nat} (hf : Rd Bf w 1 Af nf kf (is mf)) {Al : Option Addr} {nl kl : Nat} (hl : Rl w Al nl kl l) (hv : Q2 Pf Mf mf n l Q) :
  Calls Try.prog 28 #[.agg #[.int .i64 Pf, .int .i64 Mf, .slice Af nf kf], .int .i64 n, .slice Al nl kl] w <| Rt w fun v Qr => ∃ (p0 : Int) (m0 : Int) (f0 : LI) (c0 : Int) (r0 : LL) (r1 : Int) (A0f : Option Addr) (k0f : Nat) (A0 : Option Addr) (k0 : Nat) (hs0 : Hs), v = .tuple #[.agg #[.int .i64 p0, .int .i64 m0, .slice A0f f0.length k0f, .int .i64 c0, .slice A0 r0.length k0], .int .i64 r1] /\ Qr = [.row 3 1 A0f f0.length k0f (is f0), mx 22 3 A0 r0.length k0 hs0 r0] /\ Q (p0, m0, f0, c0, r0, r1) := by
 have hnf := hf.ilen; subst hnf; have hnl := hl.len; subst hnl; obtain ⟨hsl, hHl⟩ := hl.heads; refine Ji <| J8 (vs := [.agg #[nI Pf, nI Mf, nS Af mf kf], nI n, nS Al l kl]) [.cell 6 27, .tmp 7] XF28 rfl rfl rfl rfl ?_; have hS := Jp w; unfold Q2 at hv; refine Jd 2 <| JA (z := 3) (cs := [nI Pf, nI Mf, nS Af mf kf]) hS rfl rfl rfl rfl ?_; intro g11 w12 hS; refine SL.alloc (cs := [nI 0, nI 0, .slice none 0 0, nI 0, .slice none 0 0]) hS JJ rfl rfl ?_; intro g13 w14 hS; refine Jb 2 <| Jd 2 <| JC 1 JW JY hS rfl ⟨rfl, rfl⟩ rfl <| Jb 2 <| JQ (cells := #[nI n, nS Al l kl]) Jkg rfl rfl rfl <| SL.call hS (Jt3 (hS.ro hf) (RlH.rl (RlH.ext hHl hS.ext)) hv) XF46 rfl XN46 rfl rfl ?_; rintro _ _ w15 ⟨r16, r17, x18, c19, x20, r21, A22, k23, A25, k26, hs27, rfl, rfl, hv⟩ hGw15 hS; have hS := hS.n2; refine Jb 2 <| Jw (cs := [nI r16, nI r17, nS A22 x18 k23, nI c19, nS A25 x20 k26]) 2 hS rfl JJ rfl rfl rfl rfl rfl ?_; intro w29 hS; refine Jb 2 <| W.ret ?_; have hS := hS.pick [1, 0, 2, 3] rfl
 change St _ _ _ _ [_, _, _, _] at hS
 repeat with_reducible first | refine blk.ret ?_ | refine exits.retI ?_
 refine endC.mk ⟨[.agg #[nI r16, nI r17, nS A22 x18 k23, nI c19, nS A25 x20 k26], nI r21], ⟨_, _, _, rfl, rfl, JB (cs := [nI r16, nI r17, nS A22 x18 k23, nI c19, nS A25 x20 k26]) JJ Qf rfl (Ju (hS.own (i := 2) rfl)), ⟨_, _, rfl, rfl, rfl⟩⟩, ?_⟩; exact (hS.pick [1, 0] rfl).fin rfl ⟨r16, r17, x18, c19, x20, r21, A22, k23, A25, k26, hs27, rfl, rfl, hv⟩
end Go.Proofs.Ytgjloioccgcceaa
namespace Go.Proofs.Ytgjloioccgcceaa
open Go.RowKit
end Go.Proofs.Ytgjloioccgcceaa
namespace Go.Proofs.Ytgjloioccgcceaa
open Go.RowKit
end Go.Proofs.Ytgjloioccgcceaa
namespace Go.Proofs.Ytgjloioccgcceaa
open Go.RowKit
end Go.Proofs.Ytgjloioccgcceaa
namespace Go.Proofs.Ytgjloioccgcceaa
open Go.RowKit
end Go.Proofs.Ytgjloioccgcceaa
namespace Go.Proofs.Ytgjloioccgcceaa
open Go.RowKit
end Go.Proofs.Ytgjloioccgcceaa
namespace Go.Proofs.Ytgjloioccgcceaa
open Go.RowKit
end Go.Proofs.Ytgjloioccgcceaa
namespace Go.Proofs.Ytgjloioccgcceaa
abbrev Vec := Nat -> Int
def tX (m : Nat) (c : Vec) (v : Vec) : Vec := fun i => if i < m then (if i = 0 then 0 else v (i - 1)) - c i * v (m - 1) else 0
def JV (u v : Vec) : Vec := fun i => u i + v i
def vsm (a : Int) (v : Vec) : Vec := fun i => a * v i
def vz : Vec := fun _ => 0
def e0 : Vec := fun i => if i = 0 then 1 else 0
def tXn (m : Nat) (c : Vec) : Nat -> Vec -> Vec
  | 0, v => v
  | n + 1, v => tX m c (tXn m c n v)
def opr (m : Nat) (c b : Vec) : Nat -> Vec -> Vec
  | 0, _ => vz
  | n + 1, v => JV (opr m c b n v) (vsm (b n) (tXn m c n v))
def Yj (m : Nat) (c a b : Vec) : Vec := opr m c b m a
section
variable (m : Nat) (c : Vec)
theorem tX_add (u v : Vec) : tX m c (JV u v) = JV (tX m c u) (tX m c v) := by
 funext i; simp only [tX, JV]; split
 .split <;> grind
 .rfl
theorem tX_sm (a : Int) (v : Vec) : tX m c (vsm a v) = vsm a (tX m c v) := by
 funext i; simp only [tX, vsm]; split
 .split <;> grind
 .grind
theorem tX_z : tX m c vz = vz := by funext i; simp [tX, vz]
theorem Ja6 (u : Vec) : JV u vz = u := by funext i; simp [JV, vz]
theorem z_vadd (u : Vec) : JV vz u = u := by funext i; simp [JV, vz]
theorem Jf2 (u v : Vec) : JV u v = JV v u := by funext i; simp only [JV]; omega
theorem Zs (u v w : Vec) : JV (JV u v) w = JV u (JV v w) := by funext i; simp only [JV]; omega
theorem Jdq (a : Int) (u v : Vec) : vsm a (JV u v) = JV (vsm a u) (vsm a v) := by funext i; simp only [JV, vsm]; grind
theorem Jgw (a b : Int) (u : Vec) : vsm a (vsm b u) = vsm (a * b) u := by funext i; simp only [vsm]; grind
theorem Jmq (a : Int) : vsm a vz = vz := by funext i; simp [vsm, vz]
theorem Jbp (n : Nat) (u v : Vec) : tXn m c n (JV u v) = JV (tXn m c n u) (tXn m c n v) := by
 induction n with
 | zero => rfl
 | succ n ih => simp only [tXn, ih, tX_add]
theorem Jch (n : Nat) (a : Int) (v : Vec) : tXn m c n (vsm a v) = vsm a (tXn m c n v) := by
 induction n with
 | zero => rfl
 | succ n ih => simp only [tXn, ih, tX_sm]
theorem Ji4 (n : Nat) : tXn m c n vz = vz := by
 induction n with
 | zero => rfl
 | succ n ih => simp only [tXn, ih, tX_z]
theorem Jqh (n : Nat) (v : Vec) : tXn m c n (tX m c v) = tX m c (tXn m c n v) := by
 induction n with
 | zero => rfl
 | succ n ih => simp only [tXn, ih]
theorem Jdu (n k : Nat) (v : Vec) : tXn m c n (tXn m c k v) = tXn m c (n + k) v := by
 induction n with
 | zero => simp [tXn]
 | succ n ih => rw [Nat.succ_add]; simp only [tXn, ih]
variable (b : Vec)
theorem Jm6 (n : Nat) (u v : Vec) : opr m c b n (JV u v) = JV (opr m c b n u) (opr m c b n v) := by
 induction n with
 | zero => simp [opr, Ja6]
 | succ n ih => simp only [opr, ih, Jbp, Jdq]; funext i; simp only [JV]; omega
theorem Jlc (n : Nat) (a : Int) (v : Vec) : opr m c b n (vsm a v) = vsm a (opr m c b n v) := by
 induction n with
 | zero => simp [opr, Jmq]
 | succ n ih => simp only [opr, ih, Jch, Jdq, Jgw]; rw [Int.mul_comm (b n) a]
theorem opr_z (n : Nat) : opr m c b n vz = vz := by
 induction n with
 | zero => rfl
 | succ n ih => simp only [opr, ih, Ji4, Jmq, Ja6]
theorem Jm5 (n k : Nat) (v : Vec) : opr m c b n (tXn m c k v) = tXn m c k (opr m c b n v) := by
 induction n with
 | zero => simp [opr, Ji4]
 | succ n ih => simp only [opr, ih, Jbp, Jch, Jdu]; rw [Nat.add_comm n k]
theorem Jje (d : Vec) (n k : Nat) (v : Vec) : opr m c b n (opr m c d k v) = opr m c d k (opr m c b n v) := by
 induction n with
 | zero => simp only [opr, opr_z]
 | succ n ih => simp only [opr, ih, Jm6, Jlc, Jm5]
theorem Jq5 (d : Vec) (n : Nat) (v : Vec) : opr m c (JV b d) n v = JV (opr m c b n v) (opr m c d n v) := by
 induction n with
 | zero => simp [opr, Ja6]
 | succ n ih => simp only [opr, ih]; funext i; simp only [JV, vsm]; grind
end
def vei (k : Nat) : Vec := fun i => if i = k then 1 else 0
theorem Jk0 {m : Nat} {c : Vec} : ∀ {k : Nat}, k < m -> tXn m c k e0 = vei k
 | 0, _ => rfl
 | k + 1, h => by
  have ih : tXn m c k e0 = vei k := Jk0 (by omega); simp only [tXn, ih]; funext i; simp only [tX, vei]; split
  .rw [if_neg (show ¬ m - 1 = k by omega)]; by_cases h0 : i = 0
   .subst h0; simp
   .simp only [h0, if_false]; by_cases h1 : i = k + 1
    .subst h1; simp
    .rw [if_neg (by omega), if_neg h1]; simp
  .rw [if_neg (by omega)]
theorem Jhg {m : Nat} {c a : Vec} : ∀ {n : Nat}, n <= m -> ∀ i, opr m c a n e0 i = if i < n then a i else 0
  | 0, _, i => by simp [opr, vz]
  | n + 1, h, i => by
    simp only [opr, JV, vsm]
    rw [Jhg (n := n) (by omega) i, Jk0 (by omega)]
    simp only [vei]
    by_cases h1 : i = n
    . subst h1; simp
    . by_cases h2 : i < n
      . simp [h2, h1, show i < n + 1 by omega]
      . simp [h2, h1, show ¬ i < n + 1 by omega]
def Sup (m : Nat) (v : Vec) : Prop := ∀ i, m <= i -> v i = 0
theorem Zh {m : Nat} {c a : Vec} (h : Sup m a) : opr m c a m e0 = a := by
 funext i; rw [Jhg (Nat.le_refl m)]; split
 .rfl
 .exact (h i (by omega)).symm
theorem Sup.z {m : Nat} : Sup m vz := fun _ _ => rfl
theorem Sup.tX {m : Nat} {c v : Vec} : Sup m (tX m c v) := fun i h => by simp [Go.Proofs.Ytgjloioccgcceaa.tX, show ¬ i < m by omega]
theorem Sup.add {m : Nat} {u v : Vec} (hu : Sup m u) (hv : Sup m v) : Sup m (JV u v) := fun i h => by simp [JV, hu i h, hv i h]
theorem Sup.sm {m : Nat} {a : Int} {v : Vec} (hv : Sup m v) : Sup m (vsm a v) := fun i h => by simp [vsm, hv i h]
theorem Sup.tXn {m : Nat} {c v : Vec} (hv : Sup m v) : ∀ n, Sup m (tXn m c n v)
 | 0 => hv
 | _ + 1 => Sup.tX
theorem Sup.opr {m : Nat} {c b v : Vec} (hv : Sup m v) : ∀ n, Sup m (opr m c b n v)
 | 0 => Sup.z
 | n + 1 => (Sup.opr hv n).add (hv.tXn n).sm
theorem Jac {m : Nat} {c a b : Vec} (ha : Sup m a) (hb : Sup m b) : Yj m c a b = Yj m c b a := by
 unfold Yj
 calc opr m c b m a = opr m c b m (opr m c a m e0) := by rw [Zh ha]
  _ = opr m c a m (opr m c b m e0) := Jje ..
  _ = opr m c a m b := by rw [Zh hb]
theorem Jkx {m : Nat} {c a b d : Vec} (ha : Sup m a) (hb : Sup m b) (hd : Sup m d) : Yj m c (Yj m c a b) d = Yj m c a (Yj m c b d) := by
 rw [Jac (a := a) (b := Yj m c b d) ha (Sup.opr hb m)]; show opr m c d m (opr m c b m a) = opr m c a m (opr m c d m b); rw [<- Jje m c d a m m b]; show opr m c d m (Yj m c a b) = opr m c d m (Yj m c b a); rw [Jac ha hb]
theorem Jp6 {m : Nat} {c a b d : Vec} : Yj m c a (JV b d) = JV (Yj m c a b) (Yj m c a d) := Jq5 ..
theorem Jp5 {m : Nat} {c a : Vec} (hm : 0 < m) : Yj m c a e0 = a := by
 have key : ∀ n, 0 < n -> opr m c e0 n a = a := by
  intro n
  induction n with
  | zero => intro h; omega
  | succ n ih =>
   intro _; rcases Nat.eq_zero_or_pos n with h | h
   .subst h; funext i; simp [opr, e0, JV, vsm, vz, tXn]
   .simp only [opr, ih h]; funext i; simp [e0, JV, vsm, show n ≠ 0 by omega]
 exact key m hm
def vcg (p : Int) (u v : Vec) : Prop := ∀ i, u i % p = v i % p
section
variable {p : Int} {m : Nat} {c c' u u' v v' b b' : Vec}
theorem vcg.refl (u : Vec) : vcg p u u := fun _ => rfl
theorem vcg.symm (h : vcg p u v) : vcg p v u := fun i => (h i).symm
theorem vcg.trans {w : Vec} (h : vcg p u v) (k : vcg p v w) : vcg p u w := fun i => (h i).trans (k i)
theorem Jcr {a a' d d' : Int} (h : a % p = a' % p) (k : d % p = d' % p) : (a * d) % p = (a' * d') % p := by
 rw [Int.mul_emod, h, k, <- Int.mul_emod]
theorem Jc2 {a a' d d' : Int} (h : a % p = a' % p) (k : d % p = d' % p) : (a + d) % p = (a' + d') % p := by
 rw [Int.add_emod, h, k, <- Int.add_emod]
theorem Jk1 {a a' d d' : Int} (h : a % p = a' % p) (k : d % p = d' % p) : (a - d) % p = (a' - d') % p := by
 rw [Int.sub_emod, h, k, <- Int.sub_emod]
theorem vcg.add (h : vcg p u u') (k : vcg p v v') : vcg p (JV u v) (JV u' v') := fun i => Jc2 (h i) (k i)
theorem vcg.sm {a a' : Int} (ha : a % p = a' % p) (h : vcg p u u') : vcg p (vsm a u) (vsm a' u') := fun i => Jcr ha (h i)
theorem vcg.tX (hc : vcg p c c') (h : vcg p u u') : vcg p (tX m c u) (tX m c' u') := fun i => by
 simp only [Go.Proofs.Ytgjloioccgcceaa.tX]; split
 .split
  .exact Jk1 rfl (Jcr (hc i) (h _))
  .exact Jk1 (h _) (Jcr (hc i) (h _))
 .rfl
theorem vcg.tXn (hc : vcg p c c') (h : vcg p u u') : ∀ n, vcg p (tXn m c n u) (tXn m c' n u')
 | 0 => h
 | n + 1 => vcg.tX hc (vcg.tXn hc h n)
theorem vcg.opr (hc : vcg p c c') (hb : vcg p b b') (h : vcg p u u') : ∀ n, vcg p (opr m c b n u) (opr m c' b' n u')
 | 0 => .refl _
 | n + 1 => (vcg.opr hc hb h n).add (vcg.sm (hb n) (vcg.tXn hc h n))
theorem vcg.mul (hc : vcg p c c') (h : vcg p u u') (hb : vcg p b b') : vcg p (Yj m c u b) (Yj m c' u' b') := vcg.opr hc hb h m
end
end Go.Proofs.Ytgjloioccgcceaa
namespace Go.Proofs.Ytgjloioccgcceaa
def dv (p x : Nat) : Vec := fun i => ((x / p ^ i % p : Nat) : Int)
def vl (p : Nat) : Nat -> Vec -> Int
  | 0, _ => 0
  | n + 1, v => v 0 + (p : Int) * vl p n (fun i => v (i + 1))
def Cn (p n : Nat) (v : Vec) : Prop := ∀ i, i < n -> 0 <= v i /\ v i < p
def nm (p m : Nat) (v : Vec) : Nat := (vl p m (fun i => v i % (p : Int))).toNat
theorem ZE (p x i : Nat) : dv p x (i + 1) = dv p (x / p) i := by
 simp only [dv]; rw [Nat.pow_succ', <- Nat.div_div_eq_div_mul]
theorem YZ (p x : Nat) : dv p x 0 = ((x % p : Nat) : Int) := by simp [dv]
theorem Cn.tl {p n : Nat} {v : Vec} (h : Cn p (n + 1) v) : Cn p n (fun i => v (i + 1)) := fun i hi => h (i + 1) (by omega)
theorem Jmr {p : Nat} (hp : 0 < p) : ∀ {n : Nat} {v : Vec}, Cn p n v -> 0 <= vl p n v /\ vl p n v < ((p ^ n : Nat) : Int)
 | 0, v, _ => by simp [vl]
 | n + 1, v, h => by
  have ih := Jmr hp h.tl; have h0 := h 0 (by omega); simp only [vl]; have h1 : (p : Int) * vl p n (fun i => v (i + 1)) <= p * (((p ^ n : Nat) : Int) - 1) := Int.mul_le_mul_of_nonneg_left (by omega) (by omega); have h2 : 0 <= (p : Int) * vl p n (fun i => v (i + 1)) := Int.mul_nonneg (by omega) ih.1; have h3 : ((p ^ (n + 1) : Nat) : Int) = p * ((p ^ n : Nat) : Int) := by rw [Nat.pow_succ']; push_cast; rfl
  have h4 : (p : Int) * (((p ^ n : Nat) : Int) - 1) = p * ((p ^ n : Nat) : Int) - p := by rw [Int.mul_sub, Int.mul_one]
  omega
theorem Jei {p : Nat} : ∀ {n : Nat} {u v : Vec}, (∀ i, i < n -> u i = v i) -> vl p n u = vl p n v
 | 0, _, _, _ => rfl
 | n + 1, u, v, h => by simp only [vl]; rw [h 0 (by omega), Jei (n := n) fun i hi => h (i + 1) (by omega)]
theorem Jp7 {p : Nat} (hp : 0 < p) : ∀ {n x : Nat}, x < p ^ n -> vl p n (dv p x) = x
 | 0, x, h => by simp at h; subst h; rfl
 | n + 1, x, h => by
  simp only [vl]; have : (fun i => dv p x (i + 1)) = dv p (x / p) := by funext i; exact ZE p x i
  rw [this, Jp7 hp (n := n) (by rw [Nat.div_lt_iff_lt_mul hp, <- Nat.pow_succ]; exact h), YZ]; have := Nat.mod_add_div x p; have h2 : ((x % p + p * (x / p) : Nat) : Int) = (x : Int) := by rw [this]
  push_cast at h2 ⊢; exact h2
theorem dv_vl {p : Nat} (hp : 0 < p) : ∀ {n : Nat} {v : Vec}, Cn p n v -> ∀ i, i < n -> dv p (vl p n v).toNat i = v i
 | 0, _, _, i, hi => by omega
 | n + 1, v, h, i, hi => by
  have ih := Jmr hp h.tl; have h0 := h 0 (by omega); obtain ⟨t, ht⟩ := Int.eq_ofNat_of_zero_le ih.1; obtain ⟨a, ha⟩ := Int.eq_ofNat_of_zero_le h0.1; have hv : (vl p (n + 1) v).toNat = a + p * t := by
   simp only [vl]; rw [ht, ha]; have : (a : Int) + (p : Int) * (t : Int) = ((a + p * t : Nat) : Int) := by push_cast; rfl
   rw [this]; rfl
  have hap : a < p := by have := h0.2; rw [ha] at this; omega
  rw [hv]; cases i with
  | zero => rw [YZ, Nat.add_mul_mod_self_left, Nat.mod_eq_of_lt hap, ha]
  | succ i =>
   rw [ZE]; have h2 : (a + p * t) / p = t := by rw [Nat.add_mul_div_left _ _ hp, Nat.div_eq_of_lt hap, Nat.zero_add]
   have ih2 := dv_vl hp h.tl i (by omega); rw [ht] at ih2; rw [h2]; exact ih2
section
variable {p m : Nat}
theorem md_cn (hp : 0 < p) (v : Vec) (n : Nat) : Cn p n (fun i => v i % (p : Int)) := fun i _ => ⟨Int.emod_nonneg _ (by omega), Int.emod_lt_of_pos _ (by omega)⟩
theorem Ja3 (hp : 0 < p) (v : Vec) : nm p m v < p ^ m := by
 have := Jmr hp (md_cn hp v m); unfold nm; omega
theorem Jnm (hp : 0 < p) (v : Vec) {i : Nat} (hi : i < m) : dv p (nm p m v) i = v i % (p : Int) := dv_vl hp (md_cn hp v m) i hi
theorem Jgi (hp : 0 < p) (x n : Nat) : Cn p n (dv p x) := fun i _ => by
 have := Nat.mod_lt (x / p ^ i) hp; simp only [dv]; omega
theorem Jr1 {x i : Nat} (hx : x < p ^ m) (hi : m <= i) : dv p x i = 0 := by
 rcases Nat.eq_zero_or_pos p with rfl | hp
 .simp only [dv]; cases m with
  | zero =>
   have : x = 0 := by simpa using hx
   subst this; simp
  | succ m => simp at hx
 .have : x / p ^ i = 0 := Nat.div_eq_of_lt (Nat.lt_of_lt_of_le hx (Nat.pow_le_pow_right hp hi)); simp [dv, this]
theorem Yb {x : Nat} (hx : x < p ^ m) : Sup m (dv p x) := fun i hi => Jr1 hx hi
theorem Jbb (x i : Nat) : dv p x i % (p : Int) = dv p x i := by
 simp only [dv]; rw [<- Int.natCast_emod, Nat.mod_mod]
theorem Ja4 (hp : 0 < p) {x : Nat} (hx : x < p ^ m) : nm p m (dv p x) = x := by
 unfold nm; rw [Jei (v := dv p x) fun i _ => Jbb x i, Jp7 hp hx]; rfl
theorem Jrg {u v : Vec} (h : ∀ i, i < m -> u i % (p : Int) = v i % (p : Int)) : nm p m u = nm p m v := by
 unfold nm; rw [Jei h]
theorem Zc {u v : Vec} (h : vcg p u v) : nm p m u = nm p m v := Jrg fun i _ => h i
theorem Jka (hp : 0 < p) {v : Vec} (hv : Sup m v) : vcg p (dv p (nm p m v)) v := fun i => by
 rcases Nat.lt_or_ge i m with h | h
 .rw [Jnm hp v h, Int.emod_emod]
 .rw [Jr1 (Ja3 hp v) h, hv i h]
theorem nm_eq (hp : 0 < p) {x : Nat} {v : Vec} (hx : x < p ^ m) (h : ∀ i, i < m -> dv p x i = v i % (p : Int)) : nm p m v = x := by
 rw [<- Ja4 hp hx]; exact Jrg fun i hi => by rw [h i hi, Int.emod_emod]
end
def JZ (p m x y : Nat) : Nat := nm p m (JV (dv p x) (dv p y))
def Yy (p m x : Nat) : Nat := nm p m (vsm (-1) (dv p x))
def Jy (p m : Nat) (c : Vec) (x y : Nat) : Nat := nm p m (Yj m c (dv p x) (dv p y))
section
variable {p m : Nat} {c : Vec}
theorem Jnl (hp : 0 < p) (x y : Nat) : JZ p m x y < p ^ m := Ja3 hp _
theorem Jd1 (hp : 0 < p) (x : Nat) : Yy p m x < p ^ m := Ja3 hp _
theorem Jh2 (hp : 0 < p) (x y : Nat) : Jy p m c x y < p ^ m := Ja3 hp _
theorem Jib (hp : 0 < p) {x y : Nat} (hx : x < p ^ m) (hy : y < p ^ m) : vcg p (dv p (JZ p m x y)) (JV (dv p x) (dv p y)) := Jka hp ((Yb hx).add (Yb hy))
theorem Jur (hp : 0 < p) {x : Nat} (hx : x < p ^ m) : vcg p (dv p (Yy p m x)) (vsm (-1) (dv p x)) := Jka hp (Yb hx).sm
theorem Jp4 {a b : Vec} (ha : Sup m a) : Sup m (Yj m c a b) := Sup.opr ha m
theorem Jbw (hp : 0 < p) {x y : Nat} (hx : x < p ^ m) : vcg p (dv p (Jy p m c x y)) (Yj m c (dv p x) (dv p y)) := Jka hp (Jp4 (Yb hx))
theorem Jo1 (x y : Nat) : JZ p m x y = JZ p m y x := by unfold JZ; rw [Jf2]
theorem Jl1 (hp : 0 < p) {x y z : Nat} (hx : x < p ^ m) (hy : y < p ^ m) (hz : z < p ^ m) : JZ p m (JZ p m x y) z = JZ p m x (JZ p m y z) := by
 show nm p m (JV (dv p (JZ p m x y)) (dv p z)) = nm p m (JV (dv p x) (dv p (JZ p m y z))); rw [Zc ((Jib hp hx hy).add (vcg.refl _)), Zc ((vcg.refl (p := p) (dv p x)).add (Jib hp hy hz)), Zs]
theorem Jfc (p : Nat) : dv p 0 = vz := by funext i; simp [dv, vz]
theorem Jo0 (hp : 0 < p) {x : Nat} (hx : x < p ^ m) : JZ p m x 0 = x := by unfold JZ; rw [Jfc, Ja6, Ja4 hp hx]
theorem ZY (hp : 0 < p) {x : Nat} (hx : x < p ^ m) : JZ p m x (Yy p m x) = 0 := by
 show nm p m (JV (dv p x) (dv p (Yy p m x))) = 0; rw [Zc ((vcg.refl (p := p) (dv p x)).add (Jur hp hx))]; have : JV (dv p x) (vsm (-1) (dv p x)) = vz := by funext i; simp only [JV, vsm, vz]; omega
 rw [this, <- Jfc p, Ja4 hp (by exact Nat.pow_pos hp)]
theorem Jcu {x y : Nat} (hx : x < p ^ m) (hy : y < p ^ m) : Jy p m c x y = Jy p m c y x := by
 unfold Jy; rw [Jac (Yb hx) (Yb hy)]
theorem Jlz (hp : 0 < p) {x y z : Nat} (hx : x < p ^ m) (hy : y < p ^ m) (hz : z < p ^ m) : Jy p m c (Jy p m c x y) z = Jy p m c x (Jy p m c y z) := by
 show nm p m (Yj m c (dv p (Jy p m c x y)) (dv p z)) = nm p m (Yj m c (dv p x) (dv p (Jy p m c y z))); rw [Zc (vcg.mul (vcg.refl c) (Jbw hp hx) (vcg.refl _)), Zc (vcg.mul (vcg.refl c) (vcg.refl (dv p x)) (Jbw hp hy)), Jkx (Yb hx) (Yb hy) (Yb hz)]
theorem Jia (hp : 2 <= p) : dv p 1 = e0 := by
 funext i; cases i with
 | zero => rw [YZ, Nat.mod_eq_of_lt (by omega)]; rfl
 | succ i =>
  have : (1 : Nat) / p ^ (i + 1) = 0 := Nat.div_eq_of_lt (Nat.one_lt_pow (by omega) (by omega)); simp [dv, this, e0]
theorem Je8 (hp : 2 <= p) (hm : 0 < m) {x : Nat} (hx : x < p ^ m) : Jy p m c x 1 = x := by
 unfold Jy; rw [Jia hp, Jp5 hm, Ja4 (by omega) hx]
theorem Joy (hp : 0 < p) {x : Nat} (hx : x < p ^ m) : Jy p m c x 0 = 0 := by
 rw [Jcu hx (Nat.pow_pos hp)]; unfold Jy; rw [Jfc]; have : Yj m c vz (dv p x) = vz := opr_z ..; rw [this, <- Jfc p, Ja4 hp (Nat.pow_pos hp)]
theorem Jrs (hp : 0 < p) {x y z : Nat} (hx : x < p ^ m) (hy : y < p ^ m) (hz : z < p ^ m) : Jy p m c x (JZ p m y z) = JZ p m (Jy p m c x y) (Jy p m c x z) := by
 show nm p m (Yj m c (dv p x) (dv p (JZ p m y z))) = nm p m (JV (dv p (Jy p m c x y)) (dv p (Jy p m c x z))); rw [Zc (vcg.mul (vcg.refl c) (vcg.refl (dv p x)) (Jib hp hy hz)), Zc ((Jbw (c := c) hp hx).add (Jbw hp hx)), Jp6]
end
structure CR (q : Nat) (A M : Nat -> Nat -> Nat) : Prop where
  q2 : 2 <= q
  Al : ∀ x y, A x y < q
  Ml : ∀ x y, M x y < q
  Ac : ∀ x y, A x y = A y x
  Aa : ∀ {x y z}, x < q -> y < q -> z < q -> A (A x y) z = A x (A y z)
  Az : ∀ {x}, x < q -> A x 0 = x
  An : ∀ {x}, x < q -> ∃ y, y < q /\ A x y = 0
  Mc : ∀ {x y}, x < q -> y < q -> M x y = M y x
  Ma : ∀ {x y z}, x < q -> y < q -> z < q -> M (M x y) z = M x (M y z)
  M1 : ∀ {x}, x < q -> M x 1 = x
  M0 : ∀ {x}, x < q -> M x 0 = 0
  Md : ∀ {x y z}, x < q -> y < q -> z < q -> M x (A y z) = A (M x y) (M x z)
theorem Jmo {p m : Nat} (c : Vec) (hp : 2 <= p) (hm : 0 < m) : CR (p ^ m) (JZ p m) (Jy p m c) where
 q2 := Nat.le_trans hp (by have := Nat.pow_le_pow_right (n := p) (by omega) hm; simpa using this)
 Al := Jnl (by omega)
 Ml := Jh2 (by omega)
 Ac := Jo1
 Aa := Jl1 (by omega)
 Az := Jo0 (by omega)
 An := fun {x} hx => ⟨Yy p m x, Jd1 (by omega) x, ZY (by omega) hx⟩
 Mc := Jcu
 Ma := Jlz (by omega)
 M1 := Je8 hp hm
 M0 := Joy (by omega)
 Md := Jrs (by omega)
end Go.Proofs.Ytgjloioccgcceaa
namespace Go.Proofs.Ytgjloioccgcceaa
def pw (M : Nat -> Nat -> Nat) (g : Nat) : Nat -> Nat
  | 0 => 1
  | k + 1 => M (pw M g k) g
theorem php : ∀ (n : Nat) (f : Nat -> Nat), (∀ i, i < n + 1 -> f i < n) -> ∃ i j, i < j /\ j < n + 1 /\ f i = f j
 | 0, f, h => absurd (h 0 (by omega)) (by omega)
 | n + 1, f, h => by
  by_cases hc : ∃ i, i < n + 1 /\ f i = f (n + 1)
  .obtain ⟨i, hi, he⟩ := hc; exact ⟨i, n + 1, hi, by omega, he⟩
  .have hv := h (n + 1) (by omega); obtain ⟨i, j, hij, hj, he⟩ := php n (fun i => if f i = n then f (n + 1) else f i) (fun i hi => by
    have hne : f i ≠ f (n + 1) := fun e => hc ⟨i, hi, e⟩; have := h i (by omega); show (if f i = n then f (n + 1) else f i) < n; split
    .omega
    .omega)
   refine ⟨i, j, hij, by omega, ?_⟩; have hi1 : f i ≠ f (n + 1) := fun e => hc ⟨i, by omega, e⟩; have hj1 : f j ≠ f (n + 1) := fun e => hc ⟨j, by omega, e⟩; split at he <;> split at he <;> omega
theorem Ji6 {n : Nat} {f : Nat -> Nat} (hb : ∀ i, i < n -> f i < n) (hi : ∀ i j, i < j -> j < n -> f i ≠ f j) {y : Nat} (hy : y < n) : ∃ i, i < n /\ f i = y := by
 obtain ⟨i, j, hij, hj, he⟩ := php n (fun i => if i < n then f i else y) (fun i _ => by
  show (if i < n then f i else y) < n; split
  .rename_i h; exact hb i h
  .exact hy)
 rcases Nat.lt_or_ge j n with h | h
 .rw [if_pos h, if_pos (show i < n by omega)] at he; exact absurd he (hi i j hij h)
 .rw [if_neg (show ¬ j < n by omega), if_pos (show i < n by omega)] at he; exact ⟨i, by omega, he⟩
section
variable {q : Nat} {A M : Nat -> Nat -> Nat} (R : CR q A M)
include R
namespace CR
theorem one_lt : 1 < q := R.q2
theorem pos : 0 < q := by have := R.q2; omega
theorem I1 {x : Nat} (hx : x < q) : M 1 x = x := by rw [R.Mc R.one_lt hx, R.M1 hx]
theorem Z0 {x : Nat} (hx : x < q) : M 0 x = 0 := by rw [R.Mc R.pos hx, R.M0 hx]
theorem zA {x : Nat} (hx : x < q) : A 0 x = x := by rw [R.Ac, R.Az hx]
theorem pw_lt (g : Nat) : ∀ k, pw M g k < q
 | 0 => R.one_lt
 | k + 1 => R.Ml _ _
theorem pw_one {g : Nat} (hg : g < q) : pw M g 1 = g := R.I1 hg
theorem pw_add {g : Nat} (hg : g < q) (i : Nat) : ∀ j, pw M g (i + j) = M (pw M g i) (pw M g j)
 | 0 => (R.M1 (R.pw_lt g i)).symm
 | j + 1 => by
  show M (pw M g (i + j)) g = M (pw M g i) (M (pw M g j) g); rw [pw_add hg i j, R.Ma (R.pw_lt g i) (R.pw_lt g j) hg]
theorem pw_pw {g : Nat} (hg : g < q) (i : Nat) : ∀ j, pw M (pw M g i) j = pw M g (i * j)
 | 0 => rfl
 | j + 1 => by
  show M (pw M (pw M g i) j) (pw M g i) = _; rw [pw_pw hg i j, <- R.pw_add hg]; rfl
theorem one_pw : ∀ j, pw M 1 j = 1
 | 0 => rfl
 | j + 1 => by show M (pw M 1 j) 1 = 1; rw [one_pw j, R.M1 R.one_lt]
theorem zero_pw {n : Nat} (h : 0 < n) : pw M 0 n = 0 := by
 cases n with
 | zero => omega
 | succ n => exact R.M0 (R.pw_lt 0 n)
end CR
end
structure Gn (q : Nat) (M : Nat -> Nat -> Nat) (g : Nat) : Prop where
  lt : g < q
  one : pw M g (q - 1) = 1
  no : ∀ k, 0 < k -> k < q - 1 -> pw M g k ≠ 1
namespace Gn
variable {q g : Nat} {A M : Nat -> Nat -> Nat}
theorem per (G : Gn q M g) (R : CR q A M) (i k : Nat) : pw M g (i + (q - 1) * k) = pw M g i := by
 rw [R.pw_add G.lt, <- R.pw_pw G.lt, G.one, R.one_pw, R.M1 (R.pw_lt g i)]
theorem ne0 (G : Gn q M g) (R : CR q A M) (k : Nat) : pw M g k ≠ 0 := fun h => by
 have h1 := G.per R 0 (k + 1); have hq := R.q2; rw [Nat.zero_add] at h1; have : (q - 1) * (k + 1) = k + ((q - 1) * (k + 1) - k) := by
  have : k + 1 <= (q - 1) * (k + 1) := Nat.le_mul_of_pos_left _ (by omega); omega
 rw [this, R.pw_add G.lt, h, R.Z0 (R.pw_lt g _)] at h1; exact absurd h1 (by show ¬ (0 : Nat) = 1; omega)
theorem inj (G : Gn q M g) (R : CR q A M) {i j : Nat} (hij : i < j) (hj : j < q - 1) : pw M g i ≠ pw M g j := fun h => by
 have e1 : M (pw M g i) (pw M g (q - 1 - i)) = 1 := by rw [<- R.pw_add G.lt, show i + (q - 1 - i) = q - 1 by omega, G.one]
 have e2 : M (pw M g j) (pw M g (q - 1 - i)) = pw M g (j - i) := by
  rw [<- R.pw_add G.lt, show j + (q - 1 - i) = (j - i) + (q - 1) * 1 by omega, G.per R]
 rw [h] at e1; exact G.no (j - i) (by omega) (by omega) (e2.symm.trans e1)
theorem surj (G : Gn q M g) (R : CR q A M) {x : Nat} (h0 : 0 < x) (hx : x < q) : ∃ k, k < q - 1 /\ pw M g k = x := by
 obtain ⟨i, hi, he⟩ := Ji6 (n := q - 1) (f := fun k => pw M g k - 1) (fun i hi => by
  have := R.pw_lt g i; have := G.ne0 R i; show pw M g i - 1 < q - 1; omega) (fun i j hij hj he => by
  have h1 := G.ne0 R i; have h2 := G.ne0 R j; exact G.inj R hij hj (by omega)) (y := x - 1) (by omega)
 have := G.ne0 R i; exact ⟨i, hi, by omega⟩
open Classical in
noncomputable def lg (q : Nat) (M : Nat -> Nat -> Nat) (g x : Nat) : Nat := if h : ∃ k, k < q - 1 /\ pw M g k = x then Classical.choose h else 0
theorem xone (G : Gn q M g) (R : CR q A M) {x : Nat} (h0 : 0 < x) (hx : x < q) : pw M x (q - 1) = 1 := by
  obtain ⟨k, hk, rfl⟩ := G.surj R h0 hx
  rw [R.pw_pw G.lt, Nat.mul_comm, <- R.pw_pw G.lt, G.one, R.one_pw]
end Gn
end Go.Proofs.Ytgjloioccgcceaa
namespace Go.Proofs.Ytgjloioccgcceaa
structure IsLf (n d : Nat) : Prop where
  two : 2 <= d
  dvd : n % d = 0
  min : ∀ e, 2 <= e -> n % e = 0 -> d <= e
def Jr3 : Nat -> Nat -> Nat
  | _, 0 => 1
  | 0, _ + 1 => 0
  | n + 1, k + 1 => Jr3 n k + Jr3 n (k + 1)
section
variable {q : Nat} {A M : Nat -> Nat -> Nat} (R : CR q A M)
include R
namespace CR
theorem Aac {a b c : Nat} (ha : a < q) (hb : b < q) (hc : c < q) : A (A a b) c = A (A a c) b := by
 rw [R.Aa ha hb hc, R.Ac b c, <- R.Aa ha hc hb]
theorem A4 {a b c d : Nat} (ha : a < q) (hb : b < q) (hc : c < q) (hd : d < q) : A (A a b) (A c d) = A (A a c) (A b d) := by
 rw [<- R.Aa (R.Al a b) hc hd, R.Aac ha hb hc, R.Aa (R.Al a c) hb hd]
end CR
end
end Go.Proofs.Ytgjloioccgcceaa
