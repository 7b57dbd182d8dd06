/- What only this law leans on. -/
import Derived.Test.YtcmfjjbbcfddpaaWordAddsG6
set_option linter.unusedVariables false
namespace Go.Proofs.Ytcmfjjbbcfddpaa
open Go.RowKit
theorem Try.nm28 : (Try.f28.name == "runtime.NumGoroutine") = false := by kernel_rfl
theorem Try.nm29 : (Try.f29.name == "runtime.NumGoroutine") = false := by kernel_rfl
theorem Try.nm60 : (Try.f60.name == "runtime.NumGoroutine") = false := by kernel_rfl
theorem Try.nm88 : (Try.f88.name == "runtime.NumGoroutine") = false := by kernel_rfl
end Go.Proofs.Ytcmfjjbbcfddpaa
namespace Go.Proofs.Ytcmfjjbbcfddpaa
open Go.RowKit
abbrev XF28 := Try.func28
abbrev XF29 := Try.func29
abbrev XF6 := Try.func6
abbrev XF60 := Try.func60
abbrev XF88 := Try.func88
abbrev XN28 := Try.nm28
abbrev XN29 := Try.nm29
abbrev XN60 := Try.nm60
abbrev XN88 := Try.nm88
end Go.Proofs.Ytcmfjjbbcfddpaa
set_option linter.unusedSimpArgs false
set_option linter.unusedVariables false
set_option maxRecDepth 4000
set_option maxHeartbeats 4000000
namespace Go.Proofs.Ytcmfjjbbcfddpaa
open Go.RowKit
def V_rNeg (Pf : Int) (Mf : Int) (mf : List Int) (x : Int) (Q : Int → Prop) : Prop :=
  V_rDigits Pf Mf mf x (fun x14 => ∃ (I24 : List Int → Int → Prop) (μ25 : List Int → Int → Nat), I24 x14 (0 : Int) ∧ ∀ (x22 : List Int) (z23 : Int), (I24 x22 z23 → (((z23 < ((x14.length : Nat) : Int)) → ((0 ≤ z23 ∧ z23 < (x14.length : Nat)) ∧ ((I64 (Pf - (gi x22 z23))) ∧ ((Pf ≠ 0) ∧ ((0 ≤ z23 ∧ z23 < (x14.length : Nat)) ∧ ((I64 (z23 + (1 : Int))) ∧ (I24 (si x22 z23 ((Pf - (gi x22 z23)).tmod Pf)) (z23 + (1 : Int)) ∧ μ25 (si x22 z23 ((Pf - (gi x22 z23)).tmod Pf)) (z23 + (1 : Int)) < μ25 x22 z23))))))) ∧ (¬ (z23 < ((x14.length : Nat) : Int)) → (V_rValue Pf Mf mf x22 (fun r48 => Q r48))))))
theorem ok_rNeg {w : World} {Q : Int → Prop} {Pf : Int} {Mf : Int} {mf : List Int} {x : Int} {Bf : Nat} {Af : Option Addr} {nf kf : Nat} (hf : Rd Bf w 1 Af nf kf (is mf)) (hv : V_rNeg Pf Mf mf x Q) :
    Calls Try.prog 88 #[.agg #[.int .i64 Pf, .int .i64 Mf, .slice Af nf kf], .int .i64 x] w fun e w' => ∃ v Qr, e = .returned v ∧ w.grownBy w' none ∧ Rows w.heap.size none w' Qr ∧ News w.heap.size Qr ∧ ∃ (r0 : Int), v = .int .i64 r0 ∧ Qr = [] ∧ Q r0 := by
  have hnf := hf.ilen
  subst hnf
  refine calls_swap <| calls_of_W (vs := [.agg #[.int .i64 Pf, .int .i64 Mf, .slice Af mf.length kf], .int .i64 x]) [4] XF88 rfl rfl rfl rfl ?_
  have hS := St.start w
  unfold V_rNeg at hv
  refine W.seq <| W.region <| SL.box (z := 3) (cs := [.int .i64 Pf, .int .i64 Mf, .slice Af mf.length kf]) hS rfl rfl rfl rfl ?_
  intro g11 w12 hS
  refine WL.assign rfl rfl <| WL.done <| W.seq <| W.region <| WL.loadV (cs := [.int .i64 Pf, .int .i64 Mf, .slice Af mf.length kf]) XE24 XG24 rfl rfl (Own.vcells (hS.own (i := 0) rfl)) rfl <| WL.move rfl rfl <| SL.call hS (ok_rDigits (hS.ro hf) hv) XF63 rfl XN63 rfl rfl ?_
  rintro _ _ w13 ⟨x14, A15, k16, rfl, rfl, hv⟩ hGw13 hS
  have hS := hS.n1
  refine WL.assign rfl rfl <| WL.done <| W.seq <| W.seq <| W.region <| WL.assign rfl rfl <| WL.done <| W.block ?_
  obtain ⟨I24, μ25, hv, hk49⟩ := hv
  refine W.loop (σ := List Int × Int) (fun q w1 => match q with | (x22, z23) => I24 x22 z23 ∧ St TT w none w1 [.row 3 1 A15 x14.length k16 (is x22), .row 24 3 (some ⟨g11, 0, none⟩) 1 1 [.int .i64 Pf, .int .i64 Mf, .slice Af mf.length kf]]) (fun q => match q with | (x22, z23) => [(2, .pointer (some ⟨g11, 0, none⟩)), (4, .int .i64 (0 : Int)), (5, .slice A15 x14.length k16), (6, .int .i64 z23)]) (fun q => match q with | (x22, z23) => μ25 x22 z23) (x14, (0 : Int)) ⟨hv, hS⟩ ⟨rfl, rfl, rfl, rfl, trivial⟩ ?_
  rintro ⟨x22, z23⟩ w26 ⟨hv, hS⟩
  have hv := hk49 x22 z23 hv
  refine W.seq <| W.seq <| W.region <| WL.move rfl rfl <| WL.move rfl rfl <| WL.len XU22 rfl rfl <| WL.lssD rfl rfl rfl <| WL.done <| W.cond2 rfl (fun c27 => ?_) (fun c27 => ?_)
  ·have hv := hv.1 (of_decide_eq_true c27)
   refine W.skip <| W.seq <| W.block ?_
   obtain ⟨o35, hv⟩ := hv
   obtain ⟨o38, hv⟩ := hv
   obtain ⟨o42, hv⟩ := hv
   refine W.drawV 12 [⟨[], [5], true⟩, ⟨[], [6], true⟩, ⟨[], [2], true⟩, ⟨[2], [], false⟩, ⟨[], [5], true⟩, ⟨[], [6], true⟩, ⟨[4, 5], [], true⟩, ⟨[6], [], false⟩, ⟨[3, 7], [], true⟩, ⟨[], [2], true⟩, ⟨[9], [], false⟩, ⟨[8, 10], [], true⟩] [[(5, .slice A15 x14.length k16)], [(6, .int .i64 z23)], [(2, .pointer (some ⟨g11, 0, none⟩))], [], [(5, .slice A15 x14.length k16)], [(6, .int .i64 z23)], [], [], [], [(2, .pointer (some ⟨g11, 0, none⟩))], [], []] [(16, .slice A15 x14.length k16), (17, .int .i64 z23), (18, .pointer (some ⟨g11, 0, none⟩)), (19, .int .i64 Pf), (20, .slice A15 x14.length k16), (21, .int .i64 z23), (22, .pointer (some ((adOf A15).add z23.toNat))), (23, .int .i64 (gi x22 z23)), (24, .int .i64 (Pf - (gi x22 z23))), (25, .pointer (some ⟨g11, 0, none⟩)), (26, .int .i64 Pf), (27, .int .i64 ((Pf - (gi x22 z23)).tmod Pf))] Try.mixed (by kernel_rfl) rfl rfl ?_ ?_
   · refine ⟨⟨rfl, ⟨rfl, trivial⟩, fun _ _ _ => WL.move rfl rfl <| WL.done ⟨rfl, rfl⟩⟩, ⟨rfl, ⟨rfl, trivial⟩, fun _ _ _ => WL.move rfl rfl <| WL.done ⟨rfl, rfl⟩⟩, ⟨rfl, ⟨rfl, trivial⟩, fun _ _ _ => WL.fieldA (off := 0) XA24_0 rfl rfl <| WL.done ⟨rfl, rfl⟩⟩, ⟨rfl, trivial, fun _ hE _ => have hS := hS.grow (hE rfl); WL.load XU3 rfl rfl (Own.vcells (hS.own (i := 1) rfl) 0 _ rfl) rfl <| WL.done ⟨rfl, ext_refl _⟩⟩, ⟨rfl, ⟨rfl, trivial⟩, fun _ _ _ => WL.move rfl rfl <| WL.done ⟨rfl, rfl⟩⟩, ⟨rfl, ⟨rfl, trivial⟩, fun _ _ _ => WL.move rfl rfl <| WL.done ⟨rfl, rfl⟩⟩, ⟨rfl, trivial, fun _ _ _ => SL.index XU22 XE3 (hS.rd (i := 0) rfl) rfl rfl o35 rfl <| WL.done ⟨rfl, rfl⟩⟩, ⟨rfl, trivial, fun _ hE _ => have hS := hS.grow (hE rfl); WL.load XU3 rfl rfl (Rd.gi (hS.rd (i := 0) rfl) o35) rfl <| WL.done ⟨rfl, ext_refl _⟩⟩, ⟨rfl, trivial, fun _ _ _ => WL.sub (r := (Pf - (gi x22 z23))) rfl rfl (wr o38) rfl <| WL.done ⟨rfl, rfl⟩⟩, ⟨rfl, ⟨rfl, trivial⟩, fun _ _ _ => WL.fieldA (off := 0) XA24_0 rfl rfl <| WL.done ⟨rfl, rfl⟩⟩, ⟨rfl, trivial, fun _ hE _ => have hS := hS.grow (hE rfl); WL.load XU3 rfl rfl (Own.vcells (hS.own (i := 1) rfl) 0 _ rfl) rfl <| WL.done ⟨rfl, ext_refl _⟩⟩, ⟨rfl, trivial, fun _ _ _ => WL.rem (r := ((Pf - (gi x22 z23)).tmod Pf)) rfl rfl o42 rfl rfl <| WL.done ⟨rfl, rfl⟩⟩, trivial⟩
   intro w43 hT
   have hS := hS.grow hT
   refine WA.step1 12 (by decide +kernel) rfl ?_
   obtain ⟨o44, hv⟩ := hv
   refine SL.index XU22 XE3 (hS.rd (i := 0) rfl) rfl rfl o44 rfl <| WL.done <| WA.step1 13 (by decide +kernel) rfl <| SL.store (cs' := is (si x22 z23 ((Pf - (gi x22 z23)).tmod Pf))) 0 z23.toNat hS rfl XE3 rfl rfl rfl (is_lt (hS.rd (i := 0) rfl) o44) (is_set _ _ _) ?_
   intro w45 hS
   refine WL.done <| WA.done (by decide +kernel) <| W.region <| WL.move rfl rfl ?_
   obtain ⟨o46, hv⟩ := hv
   refine WL.add (r := (z23 + (1 : Int))) rfl rfl (wr o46) rfl <| WL.assign rfl rfl <| WL.done ?_
   exact ⟨(si x22 z23 ((Pf - (gi x22 z23)).tmod Pf), (z23 + (1 : Int))), ⟨rfl, rfl, rfl, rfl, trivial⟩, hv.2, rfl, hv.1, hS⟩
  have hv := hv.2 (of_decide_eq_false c27)
  refine W.exit <| W.seq <| W.region <| WL.loadV (cs := [.int .i64 Pf, .int .i64 Mf, .slice Af mf.length kf]) XE24 XG24 rfl rfl (Own.vcells (hS.own (i := 1) rfl)) rfl <| WL.move rfl rfl <| SL.call hS (ok_rValue (hS.ro hf) (hS.rd (i := 0) rfl) hv) XF64 rfl XN64 rfl rfl ?_
  rintro _ _ w47 ⟨r48, rfl, rfl, hv⟩ hGw47 hS
  have hS := hS.n0
  refine WL.assign rfl rfl <| WL.done <| W.ret <| ⟨_, rfl, Fin.nil ?_⟩
  exact ⟨_, hS.ext, (hS.pick [] rfl).rows, News.of (hS.pick [] rfl).rows rfl, ⟨r48, rfl, rfl, hv⟩⟩
def V_rSub (Pf : Int) (Mf : Int) (mf : List Int) (x : Int) (y : Int) (Q : Int → Prop) : Prop :=
  ∃ (r18 : Int), V_rNeg Pf Mf mf y (fun q => q = r18) ∧ (∃ (r22 : Int), V_rAdd Pf Mf mf x r18 (fun q => q = r22) ∧ Q r22)
theorem ok_rSub {w : World} {Q : Int → Prop} {Pf : Int} {Mf : Int} {mf : List Int} {x : Int} {y : Int} {Bf : Nat} {Af : Option Addr} {nf kf : Nat} (hf : Rd Bf w 1 Af nf kf (is mf)) (hv : V_rSub Pf Mf mf x y Q) :
    Calls Try.prog 60 #[.agg #[.int .i64 Pf, .int .i64 Mf, .slice Af nf kf], .int .i64 x, .int .i64 y] w fun e w' => ∃ v Qr, e = .returned v ∧ w.grownBy w' none ∧ Rows w.heap.size none w' Qr ∧ News w.heap.size Qr ∧ ∃ (r0 : Int), v = .int .i64 r0 ∧ Qr = [] ∧ Q r0 := by
  have hnf := hf.ilen
  subst hnf
  refine calls_swap <| calls_of_W (vs := [.agg #[.int .i64 Pf, .int .i64 Mf, .slice Af mf.length kf], .int .i64 x, .int .i64 y]) [6] XF60 rfl rfl rfl rfl ?_
  have hS := St.start w
  unfold V_rSub at hv
  refine W.seq <| W.region <| SL.box (z := 3) (cs := [.int .i64 Pf, .int .i64 Mf, .slice Af mf.length kf]) hS rfl rfl rfl rfl ?_
  intro g11 w12 hS
  refine WL.assign rfl rfl <| WL.done <| W.seq ?_
  obtain ⟨r18, o20, hv⟩ := hv
  obtain ⟨r22, o24, hv⟩ := hv
  refine W.drawV 7 [⟨[], [3], false⟩, ⟨[], [1], true⟩, ⟨[], [3], false⟩, ⟨[], [2], true⟩, ⟨[2, 3], [], false⟩, ⟨[0, 1, 4], [], false⟩, ⟨[5], [], true⟩] [[(3, .pointer (some ⟨g11, 0, none⟩))], [(1, .int .i64 x)], [(3, .pointer (some ⟨g11, 0, none⟩))], [(2, .int .i64 y)], [], [], []] [(7, .agg #[.int .i64 Pf, .int .i64 Mf, .slice Af mf.length kf]), (8, .int .i64 x), (9, .agg #[.int .i64 Pf, .int .i64 Mf, .slice Af mf.length kf]), (10, .int .i64 y), (11, .int .i64 r18), (12, .int .i64 r22), (6, .int .i64 r22)] Try.mixed (by kernel_rfl) rfl rfl ?_ ?_
  · refine ⟨⟨rfl, ⟨rfl, trivial⟩, fun _ hE _ => have hS := hS.grow (hE rfl); WL.loadV (cs := [.int .i64 Pf, .int .i64 Mf, .slice Af mf.length kf]) XE24 XG24 rfl rfl (Own.vcells (hS.own (i := 0) rfl)) rfl <| WL.done ⟨rfl, ext_refl _⟩⟩, ⟨rfl, ⟨rfl, trivial⟩, fun _ _ _ => WL.move rfl rfl <| WL.done ⟨rfl, rfl⟩⟩, ⟨rfl, ⟨rfl, trivial⟩, fun _ hE _ => have hS := hS.grow (hE rfl); WL.loadV (cs := [.int .i64 Pf, .int .i64 Mf, .slice Af mf.length kf]) XE24 XG24 rfl rfl (Own.vcells (hS.own (i := 0) rfl)) rfl <| WL.done ⟨rfl, ext_refl _⟩⟩, ⟨rfl, ⟨rfl, trivial⟩, fun _ _ _ => WL.move rfl rfl <| WL.done ⟨rfl, rfl⟩⟩, ⟨rfl, trivial, ?_⟩, ⟨rfl, trivial, ?_⟩, ⟨rfl, trivial, fun _ _ _ => WL.assign rfl rfl <| WL.done ⟨rfl, rfl⟩⟩, trivial⟩
    · intro w17 hE RR
      have hS := hS.grow (hE rfl)
      refine WL.call XF88 rfl XN88 rfl rfl (calls_un (ok_rNeg (hS.ro hf) o20)) ?_
      rintro _ w19 ⟨_, hGw19, hRww19, hNww19, r18q, rfl, rfl, he⟩
      subst he
      exact WL.done ⟨rfl, hGw19⟩
    intro w21 hE RR
    have hS := hS.grow (hE rfl)
    refine WL.call XF32 rfl XN32 rfl rfl (calls_un (ok_rAdd (hS.ro hf) o24)) ?_
    rintro _ w23 ⟨_, hGw23, hRww23, hNww23, r22q, rfl, rfl, he⟩
    subst he
    exact WL.done ⟨rfl, hGw23⟩
  intro w26 hT
  have hS := hS.grow hT
  refine WA.done (by decide +kernel) <| W.ret <| ⟨_, rfl, Fin.nil ?_⟩
  exact ⟨_, hS.ext, (hS.pick [] rfl).rows, News.of (hS.pick [] rfl).rows rfl, ⟨r22, rfl, rfl, hv⟩⟩
end Go.Proofs.Ytcmfjjbbcfddpaa
set_option linter.unusedVariables false
set_option linter.unusedSimpArgs false
namespace Go.Proofs.Ytcmfjjbbcfddpaa
section
variable {P M : Int} {mf : List Int} {p m v : Nat}
theorem v_rNeg (F : FV P M mf p m v) {x : Int} {Q : Int → Prop} (h : Q ((fneg p m (inE (p ^ m) x) : Nat) : Int)) : V_rNeg P M mf x Q := by
  have hp := F.p2
  have hp2 := F.p256
  have hm8 := F.m8
  have hx := inE_lt F.ring.pos x
  refine v_rDigits F ?_
  generalize inE (p ^ m) x = a at *
  have hla := dgi_len p m a
  rw [hla]
  refine ⟨fun l z => ∃ k : Nat, z = k ∧ k ≤ m ∧ l.length = m ∧ ∀ i, i < m → vo l i = if i < k then (vsm (-1) (dv p a)) i % (p : Int) else dv p a i, fun l z => (m - z).toNat, ⟨0, rfl, Nat.zero_le _, hla, fun i hi => by rw [if_neg (by omega), dgi_at hi]⟩, ?_⟩
  rintro l _ ⟨k, rfl, hk, hl, hv⟩
  dsimp only
  rw [gi_nat, si_nat]
  refine ⟨fun hlt => ?_, fun hge => v_rVal F hl (fun i hi => by rw [hv i hi, if_pos (by omega)]) h⟩
  rw [hv k (by omega), if_neg (by omega)]
  have c1 := dv_le (p := p) (by omega) a k
  rw [F.eP]
  refine ⟨⟨by omega, by omega⟩, small (by omega) (by omega), by omega, ⟨by omega, by omega⟩, small (by omega) (by omega), ⟨k + 1, by push_cast; rfl, by omega, by rw [List.length_set, hl], fun i hi => ?_⟩, by omega⟩
  rw [vo_set]
  by_cases hki : k = i
  · subst hki
    rw [if_pos ⟨rfl, by omega⟩, if_pos (by omega), Int.tmod_eq_emod_of_nonneg (by omega)]
    show _ = (-1 * dv p a k) % (p : Int)
    rw [show (p : Int) - dv p a k = -1 * dv p a k + p * 1 by omega, Int.add_mul_emod_self_left]
  · rw [if_neg (fun h => hki h.1), hv i hi]
    by_cases hik : i < k
    · rw [if_pos hik, if_pos (by omega)]
    · rw [if_neg hik, if_neg (by omega)]
theorem v_rSub (F : FV P M mf p m v) {x y : Int} {Q : Int → Prop} (h : Q ((fadd p m (inE (p ^ m) x) (fneg p m (inE (p ^ m) y)) : Nat) : Int)) : V_rSub P M mf x y Q := by
  refine ⟨_, v_rNeg F rfl, _, v_rAdd F rfl, ?_⟩
  rw [inE_nat (fneg_lt (by have := F.p2; omega) _)]; exact h
end
section
variable {P M : Int} {mf : List Int} {p m v : Nat}
end
end Go.Proofs.Ytcmfjjbbcfddpaa
set_option linter.unusedSimpArgs false
set_option linter.unusedVariables false
set_option maxRecDepth 4000
set_option maxHeartbeats 4000000
namespace Go.Proofs.Ytcmfjjbbcfddpaa
open Go.RowKit
def V_rwAdd (Pf : Int) (Mf : Int) (mf : List Int) (a : List Int) (b : List Int) (Q : List Int × Int → Prop) : Prop :=
  ((((a.length : Nat) : Int) ≠ ((b.length : Nat) : Int)) → (Q (([] : List Int), (4 : Int)))) ∧ (¬ (((a.length : Nat) : Int) ≠ ((b.length : Nat) : Int)) → ((0 ≤ ((a.length : Nat) : Int) ∧ ((a.length : Nat) : Int) * 8 ≤ 281474976710656 ∧ ((a.length : Nat) : Int) ≤ 281474976710656) ∧ (∃ (I24 : List Int → Int → Prop) (μ25 : List Int → Int → Nat), I24 (List.replicate ((a.length : Nat) : Int).toNat (0 : Int)) (0 : Int) ∧ ∀ (x22 : List Int) (z23 : Int), (I24 x22 z23 → (((z23 < ((a.length : Nat) : Int)) → ((0 ≤ z23 ∧ z23 < (a.length : Nat)) ∧ ((0 ≤ z23 ∧ z23 < (b.length : Nat)) ∧ (∃ (r42 : Int), V_rAdd Pf Mf mf (gi a z23) (gi b z23) (fun q => q = r42) ∧ ((0 ≤ z23 ∧ z23 < (((a.length : Nat) : Int).toNat : Nat)) ∧ ((I64 (z23 + (1 : Int))) ∧ (I24 (si x22 z23 r42) (z23 + (1 : Int)) ∧ μ25 (si x22 z23 r42) (z23 + (1 : Int)) < μ25 x22 z23))))))) ∧ (¬ (z23 < ((a.length : Nat) : Int)) → (Q (x22, (0 : Int)))))))))
theorem ok_rwAdd {w : World} {Q : List Int × Int → Prop} {Pf : Int} {Mf : Int} {mf : List Int} {a : List Int} {b : List Int} {Bf : Nat} {Af : Option Addr} {nf kf : Nat} (hf : Rd Bf w 1 Af nf kf (is mf)) {Ba : Nat} {Aa : Option Addr} {na ka : Nat} (ha : Rd Ba w 1 Aa na ka (is a)) {Bb : Nat} {Ab : Option Addr} {nb kb : Nat} (hb : Rd Bb w 1 Ab nb kb (is b)) (hv : V_rwAdd Pf Mf mf a b Q) :
    Calls Try.prog 28 #[.agg #[.int .i64 Pf, .int .i64 Mf, .slice Af nf kf], .slice Aa na ka, .slice Ab nb kb] w fun e w' => ∃ v Qr, e = .returned v ∧ w.grownBy w' none ∧ Rows w.heap.size none w' Qr ∧ News w.heap.size Qr ∧ ∃ (r0 : List Int) (r1 : Int) (Ar0 : Option Addr) (cr0 : Nat), v = .tuple #[.slice Ar0 r0.length cr0, .int .i64 r1] ∧ Qr = [.row 3 1 Ar0 r0.length cr0 (is r0)] ∧ Q (r0, r1) := by
  have hnf := hf.ilen
  subst hnf
  have hna := ha.ilen
  subst hna
  have hnb := hb.ilen
  subst hnb
  refine calls_swap <| calls_of_W (vs := [.agg #[.int .i64 Pf, .int .i64 Mf, .slice Af mf.length kf], .slice Aa a.length ka, .slice Ab b.length kb]) [6, 7] XF28 rfl rfl rfl rfl ?_
  have hS := St.start w
  unfold V_rwAdd at hv
  refine W.seq <| W.region <| SL.box (z := 3) (cs := [.int .i64 Pf, .int .i64 Mf, .slice Af mf.length kf]) hS rfl rfl rfl rfl ?_
  intro g11 w12 hS
  refine WL.assign rfl rfl <| WL.assign rfl rfl <| WL.done <| W.seq <| W.seq <| W.region <| WL.move rfl rfl <| WL.len XU22 rfl rfl <| WL.move rfl rfl <| WL.len XU22 rfl rfl <| WL.neqD rfl rfl rfl <| WL.done <| W.cond2 rfl (fun c13 => ?_) (fun c13 => ?_)
  ·have hv := hv.1 (of_decide_eq_true c13)
   refine W.seq <| W.region <| WL.assign rfl rfl <| WL.assign rfl rfl <| WL.done <| W.ret ?_
   have hS := hS.nil (e := 3) (z := 1)
   refine ⟨_, rfl, Fin.nil ?_⟩
   exact ⟨_, hS.ext, (hS.pick [0] rfl).rows, News.of (hS.pick [0] rfl).rows rfl, ⟨([] : List Int), (4 : Int), none, 0, rfl, rfl, hv⟩⟩
  have hv := hv.2 (of_decide_eq_false c13)
  refine W.skip <| W.seq <| W.region <| WL.move rfl rfl <| WL.len XU22 rfl rfl ?_
  obtain ⟨o14, hv⟩ := hv
  refine SL.make (J := ((a.length : Nat) : Int)) hS XU22 XE3 rfl rfl o14 (made_is _) rfl ?_
  intro A15 w16 hS
  refine WL.assign rfl rfl <| WL.done <| W.seq <| W.seq <| W.region <| WL.assign rfl rfl <| WL.done <| W.block ?_
  obtain ⟨I24, μ25, hv, hk49⟩ := hv
  refine W.loop (σ := List Int × Int) (fun q w1 => match q with | (x22, z23) => I24 x22 z23 ∧ St TT w none w1 [.row 3 1 A15 (((a.length : Nat) : Int).toNat) (((a.length : Nat) : Int).toNat) (is x22), .row 24 3 (some ⟨g11, 0, none⟩) 1 1 [.int .i64 Pf, .int .i64 Mf, .slice Af mf.length kf]]) (fun q => match q with | (x22, z23) => [(1, .slice Aa a.length ka), (2, .slice Ab b.length kb), (3, .pointer (some ⟨g11, 0, none⟩)), (6, .slice none 0 0), (7, .int .i64 (0 : Int)), (8, .slice A15 (((a.length : Nat) : Int).toNat) (((a.length : Nat) : Int).toNat)), (9, .int .i64 z23)]) (fun q => match q with | (x22, z23) => μ25 x22 z23) (List.replicate ((a.length : Nat) : Int).toNat (0 : Int), (0 : Int)) ⟨hv, hS⟩ ⟨rfl, rfl, rfl, rfl, rfl, rfl, rfl, trivial⟩ ?_
  rintro ⟨x22, z23⟩ w26 ⟨hv, hS⟩
  have hv := hk49 x22 z23 hv
  refine W.seq <| W.seq <| W.region <| WL.move rfl rfl <| WL.move rfl rfl <| WL.len XU22 rfl rfl <| WL.lssD rfl rfl rfl <| WL.done <| W.cond2 rfl (fun c27 => ?_) (fun c27 => ?_)
  ·have hv := hv.1 (of_decide_eq_true c27)
   refine W.skip <| W.seq <| W.block ?_
   obtain ⟨o34, hv⟩ := hv
   obtain ⟨o39, hv⟩ := hv
   obtain ⟨r42, o44, hv⟩ := hv
   refine W.drawV 12 [⟨[], [8], true⟩, ⟨[], [9], true⟩, ⟨[], [3], false⟩, ⟨[], [1], true⟩, ⟨[], [9], true⟩, ⟨[3, 4], [], true⟩, ⟨[5], [], false⟩, ⟨[], [2], true⟩, ⟨[], [9], true⟩, ⟨[7, 8], [], true⟩, ⟨[9], [], false⟩, ⟨[2, 6, 10], [], false⟩] [[(8, .slice A15 (((a.length : Nat) : Int).toNat) (((a.length : Nat) : Int).toNat))], [(9, .int .i64 z23)], [(3, .pointer (some ⟨g11, 0, none⟩))], [(1, .slice Aa a.length ka)], [(9, .int .i64 z23)], [], [], [(2, .slice Ab b.length kb)], [(9, .int .i64 z23)], [], [], []] [(24, .slice A15 (((a.length : Nat) : Int).toNat) (((a.length : Nat) : Int).toNat)), (25, .int .i64 z23), (26, .agg #[.int .i64 Pf, .int .i64 Mf, .slice Af mf.length kf]), (27, .slice Aa a.length ka), (28, .int .i64 z23), (29, .pointer (some ((adOf Aa).add z23.toNat))), (30, .int .i64 (gi a z23)), (31, .slice Ab b.length kb), (32, .int .i64 z23), (33, .pointer (some ((adOf Ab).add z23.toNat))), (34, .int .i64 (gi b z23)), (35, .int .i64 r42)] Try.mixed (by kernel_rfl) rfl rfl ?_ ?_
   · refine ⟨⟨rfl, ⟨rfl, trivial⟩, fun _ _ _ => WL.move rfl rfl <| WL.done ⟨rfl, rfl⟩⟩, ⟨rfl, ⟨rfl, trivial⟩, fun _ _ _ => WL.move rfl rfl <| WL.done ⟨rfl, rfl⟩⟩, ⟨rfl, ⟨rfl, trivial⟩, fun _ hE _ => have hS := hS.grow (hE rfl); WL.loadV (cs := [.int .i64 Pf, .int .i64 Mf, .slice Af mf.length kf]) XE24 XG24 rfl rfl (Own.vcells (hS.own (i := 1) rfl)) rfl <| WL.done ⟨rfl, ext_refl _⟩⟩, ⟨rfl, ⟨rfl, trivial⟩, fun _ _ _ => WL.move rfl rfl <| WL.done ⟨rfl, rfl⟩⟩, ⟨rfl, ⟨rfl, trivial⟩, fun _ _ _ => WL.move rfl rfl <| WL.done ⟨rfl, rfl⟩⟩, ⟨rfl, trivial, fun _ _ _ => SL.index XU22 XE3 (hS.ro ha) rfl rfl o34 rfl <| WL.done ⟨rfl, rfl⟩⟩, ⟨rfl, trivial, fun _ hE _ => have hS := hS.grow (hE rfl); WL.load XU3 rfl rfl (Rd.gi (hS.ro ha) o34) rfl <| WL.done ⟨rfl, ext_refl _⟩⟩, ⟨rfl, ⟨rfl, trivial⟩, fun _ _ _ => WL.move rfl rfl <| WL.done ⟨rfl, rfl⟩⟩, ⟨rfl, ⟨rfl, trivial⟩, fun _ _ _ => WL.move rfl rfl <| WL.done ⟨rfl, rfl⟩⟩, ⟨rfl, trivial, fun _ _ _ => SL.index XU22 XE3 (hS.ro hb) rfl rfl o39 rfl <| WL.done ⟨rfl, rfl⟩⟩, ⟨rfl, trivial, fun _ hE _ => have hS := hS.grow (hE rfl); WL.load XU3 rfl rfl (Rd.gi (hS.ro hb) o39) rfl <| WL.done ⟨rfl, ext_refl _⟩⟩, ⟨rfl, trivial, ?_⟩, trivial⟩
     intro w41 hE RR
     have hS := hS.grow (hE rfl)
     refine WL.call XF32 rfl XN32 rfl rfl (calls_un (ok_rAdd (hS.ro hf) o44)) ?_
     rintro _ w43 ⟨_, hGw43, hRww43, hNww43, r42q, rfl, rfl, he⟩
     subst he
     exact WL.done ⟨rfl, hGw43⟩
   intro w45 hT
   have hS := hS.grow hT
   refine WA.step1 12 (by decide +kernel) rfl ?_
   obtain ⟨o46, hv⟩ := hv
   refine SL.index XU22 XE3 (hS.rd (i := 0) rfl) rfl rfl o46 rfl <| WL.done <| WA.step1 13 (by decide +kernel) rfl <| SL.store (cs' := is (si x22 z23 r42)) 0 z23.toNat hS rfl XE3 rfl rfl rfl (is_lt (hS.rd (i := 0) rfl) o46) (is_set _ _ _) ?_
   intro w47 hS
   refine WL.done <| WA.done (by decide +kernel) <| W.region <| WL.move rfl rfl ?_
   obtain ⟨o48, hv⟩ := hv
   refine WL.add (r := (z23 + (1 : Int))) rfl rfl (wr o48) rfl <| WL.assign rfl rfl <| WL.done ?_
   exact ⟨(si x22 z23 r42, (z23 + (1 : Int))), ⟨rfl, rfl, rfl, rfl, rfl, rfl, rfl, trivial⟩, hv.2, rfl, hv.1, hS⟩
  have hv := hv.2 (of_decide_eq_false c27)
  refine W.exit <| W.seq <| W.region <| WL.move rfl rfl <| WL.assign rfl rfl <| WL.assign rfl rfl <| WL.done <| W.ret ?_
  have hm0 := (hS.rd (i := 0) rfl).ilen
  have hS := hS.relen (i := 0) rfl hm0.symm
  refine ⟨_, rfl, Fin.nil ?_⟩
  exact ⟨_, hS.ext, (hS.pick [0] rfl).rows, News.of (hS.pick [0] rfl).rows rfl, ⟨x22, (0 : Int), A15, ((a.length : Nat) : Int).toNat, (by first | (rw [hm0]; done) | (rw [hm0]; rfl)), rfl, hv⟩⟩
def V_rwSub (Pf : Int) (Mf : Int) (mf : List Int) (a : List Int) (b : List Int) (Q : List Int × Int → Prop) : Prop :=
  ((((a.length : Nat) : Int) ≠ ((b.length : Nat) : Int)) → (Q (([] : List Int), (4 : Int)))) ∧ (¬ (((a.length : Nat) : Int) ≠ ((b.length : Nat) : Int)) → ((0 ≤ ((a.length : Nat) : Int) ∧ ((a.length : Nat) : Int) * 8 ≤ 281474976710656 ∧ ((a.length : Nat) : Int) ≤ 281474976710656) ∧ (∃ (I24 : List Int → Int → Prop) (μ25 : List Int → Int → Nat), I24 (List.replicate ((a.length : Nat) : Int).toNat (0 : Int)) (0 : Int) ∧ ∀ (x22 : List Int) (z23 : Int), (I24 x22 z23 → (((z23 < ((a.length : Nat) : Int)) → ((0 ≤ z23 ∧ z23 < (a.length : Nat)) ∧ ((0 ≤ z23 ∧ z23 < (b.length : Nat)) ∧ (∃ (r42 : Int), V_rSub Pf Mf mf (gi a z23) (gi b z23) (fun q => q = r42) ∧ ((0 ≤ z23 ∧ z23 < (((a.length : Nat) : Int).toNat : Nat)) ∧ ((I64 (z23 + (1 : Int))) ∧ (I24 (si x22 z23 r42) (z23 + (1 : Int)) ∧ μ25 (si x22 z23 r42) (z23 + (1 : Int)) < μ25 x22 z23))))))) ∧ (¬ (z23 < ((a.length : Nat) : Int)) → (Q (x22, (0 : Int)))))))))
theorem ok_rwSub {w : World} {Q : List Int × Int → Prop} {Pf : Int} {Mf : Int} {mf : List Int} {a : List Int} {b : List Int} {Bf : Nat} {Af : Option Addr} {nf kf : Nat} (hf : Rd Bf w 1 Af nf kf (is mf)) {Ba : Nat} {Aa : Option Addr} {na ka : Nat} (ha : Rd Ba w 1 Aa na ka (is a)) {Bb : Nat} {Ab : Option Addr} {nb kb : Nat} (hb : Rd Bb w 1 Ab nb kb (is b)) (hv : V_rwSub Pf Mf mf a b Q) :
    Calls Try.prog 29 #[.agg #[.int .i64 Pf, .int .i64 Mf, .slice Af nf kf], .slice Aa na ka, .slice Ab nb kb] w fun e w' => ∃ v Qr, e = .returned v ∧ w.grownBy w' none ∧ Rows w.heap.size none w' Qr ∧ News w.heap.size Qr ∧ ∃ (r0 : List Int) (r1 : Int) (Ar0 : Option Addr) (cr0 : Nat), v = .tuple #[.slice Ar0 r0.length cr0, .int .i64 r1] ∧ Qr = [.row 3 1 Ar0 r0.length cr0 (is r0)] ∧ Q (r0, r1) := by
  have hnf := hf.ilen
  subst hnf
  have hna := ha.ilen
  subst hna
  have hnb := hb.ilen
  subst hnb
  refine calls_swap <| calls_of_W (vs := [.agg #[.int .i64 Pf, .int .i64 Mf, .slice Af mf.length kf], .slice Aa a.length ka, .slice Ab b.length kb]) [6, 7] XF29 rfl rfl rfl rfl ?_
  have hS := St.start w
  unfold V_rwSub at hv
  refine W.seq <| W.region <| SL.box (z := 3) (cs := [.int .i64 Pf, .int .i64 Mf, .slice Af mf.length kf]) hS rfl rfl rfl rfl ?_
  intro g11 w12 hS
  refine WL.assign rfl rfl <| WL.assign rfl rfl <| WL.done <| W.seq <| W.seq <| W.region <| WL.move rfl rfl <| WL.len XU22 rfl rfl <| WL.move rfl rfl <| WL.len XU22 rfl rfl <| WL.neqD rfl rfl rfl <| WL.done <| W.cond2 rfl (fun c13 => ?_) (fun c13 => ?_)
  ·have hv := hv.1 (of_decide_eq_true c13)
   refine W.seq <| W.region <| WL.assign rfl rfl <| WL.assign rfl rfl <| WL.done <| W.ret ?_
   have hS := hS.nil (e := 3) (z := 1)
   refine ⟨_, rfl, Fin.nil ?_⟩
   exact ⟨_, hS.ext, (hS.pick [0] rfl).rows, News.of (hS.pick [0] rfl).rows rfl, ⟨([] : List Int), (4 : Int), none, 0, rfl, rfl, hv⟩⟩
  have hv := hv.2 (of_decide_eq_false c13)
  refine W.skip <| W.seq <| W.region <| WL.move rfl rfl <| WL.len XU22 rfl rfl ?_
  obtain ⟨o14, hv⟩ := hv
  refine SL.make (J := ((a.length : Nat) : Int)) hS XU22 XE3 rfl rfl o14 (made_is _) rfl ?_
  intro A15 w16 hS
  refine WL.assign rfl rfl <| WL.done <| W.seq <| W.seq <| W.region <| WL.assign rfl rfl <| WL.done <| W.block ?_
  obtain ⟨I24, μ25, hv, hk49⟩ := hv
  refine W.loop (σ := List Int × Int) (fun q w1 => match q with | (x22, z23) => I24 x22 z23 ∧ St TT w none w1 [.row 3 1 A15 (((a.length : Nat) : Int).toNat) (((a.length : Nat) : Int).toNat) (is x22), .row 24 3 (some ⟨g11, 0, none⟩) 1 1 [.int .i64 Pf, .int .i64 Mf, .slice Af mf.length kf]]) (fun q => match q with | (x22, z23) => [(1, .slice Aa a.length ka), (2, .slice Ab b.length kb), (3, .pointer (some ⟨g11, 0, none⟩)), (6, .slice none 0 0), (7, .int .i64 (0 : Int)), (8, .slice A15 (((a.length : Nat) : Int).toNat) (((a.length : Nat) : Int).toNat)), (9, .int .i64 z23)]) (fun q => match q with | (x22, z23) => μ25 x22 z23) (List.replicate ((a.length : Nat) : Int).toNat (0 : Int), (0 : Int)) ⟨hv, hS⟩ ⟨rfl, rfl, rfl, rfl, rfl, rfl, rfl, trivial⟩ ?_
  rintro ⟨x22, z23⟩ w26 ⟨hv, hS⟩
  have hv := hk49 x22 z23 hv
  refine W.seq <| W.seq <| W.region <| WL.move rfl rfl <| WL.move rfl rfl <| WL.len XU22 rfl rfl <| WL.lssD rfl rfl rfl <| WL.done <| W.cond2 rfl (fun c27 => ?_) (fun c27 => ?_)
  ·have hv := hv.1 (of_decide_eq_true c27)
   refine W.skip <| W.seq <| W.block ?_
   obtain ⟨o34, hv⟩ := hv
   obtain ⟨o39, hv⟩ := hv
   obtain ⟨r42, o44, hv⟩ := hv
   refine W.drawV 12 [⟨[], [8], true⟩, ⟨[], [9], true⟩, ⟨[], [3], false⟩, ⟨[], [1], true⟩, ⟨[], [9], true⟩, ⟨[3, 4], [], true⟩, ⟨[5], [], false⟩, ⟨[], [2], true⟩, ⟨[], [9], true⟩, ⟨[7, 8], [], true⟩, ⟨[9], [], false⟩, ⟨[2, 6, 10], [], false⟩] [[(8, .slice A15 (((a.length : Nat) : Int).toNat) (((a.length : Nat) : Int).toNat))], [(9, .int .i64 z23)], [(3, .pointer (some ⟨g11, 0, none⟩))], [(1, .slice Aa a.length ka)], [(9, .int .i64 z23)], [], [], [(2, .slice Ab b.length kb)], [(9, .int .i64 z23)], [], [], []] [(24, .slice A15 (((a.length : Nat) : Int).toNat) (((a.length : Nat) : Int).toNat)), (25, .int .i64 z23), (26, .agg #[.int .i64 Pf, .int .i64 Mf, .slice Af mf.length kf]), (27, .slice Aa a.length ka), (28, .int .i64 z23), (29, .pointer (some ((adOf Aa).add z23.toNat))), (30, .int .i64 (gi a z23)), (31, .slice Ab b.length kb), (32, .int .i64 z23), (33, .pointer (some ((adOf Ab).add z23.toNat))), (34, .int .i64 (gi b z23)), (35, .int .i64 r42)] Try.mixed (by kernel_rfl) rfl rfl ?_ ?_
   · refine ⟨⟨rfl, ⟨rfl, trivial⟩, fun _ _ _ => WL.move rfl rfl <| WL.done ⟨rfl, rfl⟩⟩, ⟨rfl, ⟨rfl, trivial⟩, fun _ _ _ => WL.move rfl rfl <| WL.done ⟨rfl, rfl⟩⟩, ⟨rfl, ⟨rfl, trivial⟩, fun _ hE _ => have hS := hS.grow (hE rfl); WL.loadV (cs := [.int .i64 Pf, .int .i64 Mf, .slice Af mf.length kf]) XE24 XG24 rfl rfl (Own.vcells (hS.own (i := 1) rfl)) rfl <| WL.done ⟨rfl, ext_refl _⟩⟩, ⟨rfl, ⟨rfl, trivial⟩, fun _ _ _ => WL.move rfl rfl <| WL.done ⟨rfl, rfl⟩⟩, ⟨rfl, ⟨rfl, trivial⟩, fun _ _ _ => WL.move rfl rfl <| WL.done ⟨rfl, rfl⟩⟩, ⟨rfl, trivial, fun _ _ _ => SL.index XU22 XE3 (hS.ro ha) rfl rfl o34 rfl <| WL.done ⟨rfl, rfl⟩⟩, ⟨rfl, trivial, fun _ hE _ => have hS := hS.grow (hE rfl); WL.load XU3 rfl rfl (Rd.gi (hS.ro ha) o34) rfl <| WL.done ⟨rfl, ext_refl _⟩⟩, ⟨rfl, ⟨rfl, trivial⟩, fun _ _ _ => WL.move rfl rfl <| WL.done ⟨rfl, rfl⟩⟩, ⟨rfl, ⟨rfl, trivial⟩, fun _ _ _ => WL.move rfl rfl <| WL.done ⟨rfl, rfl⟩⟩, ⟨rfl, trivial, fun _ _ _ => SL.index XU22 XE3 (hS.ro hb) rfl rfl o39 rfl <| WL.done ⟨rfl, rfl⟩⟩, ⟨rfl, trivial, fun _ hE _ => have hS := hS.grow (hE rfl); WL.load XU3 rfl rfl (Rd.gi (hS.ro hb) o39) rfl <| WL.done ⟨rfl, ext_refl _⟩⟩, ⟨rfl, trivial, ?_⟩, trivial⟩
     intro w41 hE RR
     have hS := hS.grow (hE rfl)
     refine WL.call XF60 rfl XN60 rfl rfl (calls_un (ok_rSub (hS.ro hf) o44)) ?_
     rintro _ w43 ⟨_, hGw43, hRww43, hNww43, r42q, rfl, rfl, he⟩
     subst he
     exact WL.done ⟨rfl, hGw43⟩
   intro w45 hT
   have hS := hS.grow hT
   refine WA.step1 12 (by decide +kernel) rfl ?_
   obtain ⟨o46, hv⟩ := hv
   refine SL.index XU22 XE3 (hS.rd (i := 0) rfl) rfl rfl o46 rfl <| WL.done <| WA.step1 13 (by decide +kernel) rfl <| SL.store (cs' := is (si x22 z23 r42)) 0 z23.toNat hS rfl XE3 rfl rfl rfl (is_lt (hS.rd (i := 0) rfl) o46) (is_set _ _ _) ?_
   intro w47 hS
   refine WL.done <| WA.done (by decide +kernel) <| W.region <| WL.move rfl rfl ?_
   obtain ⟨o48, hv⟩ := hv
   refine WL.add (r := (z23 + (1 : Int))) rfl rfl (wr o48) rfl <| WL.assign rfl rfl <| WL.done ?_
   exact ⟨(si x22 z23 r42, (z23 + (1 : Int))), ⟨rfl, rfl, rfl, rfl, rfl, rfl, rfl, trivial⟩, hv.2, rfl, hv.1, hS⟩
  have hv := hv.2 (of_decide_eq_false c27)
  refine W.exit <| W.seq <| W.region <| WL.move rfl rfl <| WL.assign rfl rfl <| WL.assign rfl rfl <| WL.done <| W.ret ?_
  have hm0 := (hS.rd (i := 0) rfl).ilen
  have hS := hS.relen (i := 0) rfl hm0.symm
  refine ⟨_, rfl, Fin.nil ?_⟩
  exact ⟨_, hS.ext, (hS.pick [0] rfl).rows, News.of (hS.pick [0] rfl).rows rfl, ⟨x22, (0 : Int), A15, ((a.length : Nat) : Int).toNat, (by first | (rw [hm0]; done) | (rw [hm0]; rfl)), rfl, hv⟩⟩
end Go.Proofs.Ytcmfjjbbcfddpaa
set_option linter.unusedVariables false
set_option linter.unusedSimpArgs false
namespace Go.Proofs.Ytcmfjjbbcfddpaa
section
variable {F : GFv} {p m v g : Nat}
end
section
variable {F : GFv} {p m v g : Nat}
end
section
variable {F : GFv} {p m v g : Nat}
end
section
variable {P M : Int} {mf : List Int} {p m v : Nat}
theorem v_rwAdd (F : FV P M mf p m v) {a b : List Int} {Q : List Int × Int → Prop} (hl : a.length ≤ LB) (h0 : a.length ≠ b.length → Q ([], 4)) (h1 : a.length = b.length → Q (zwf (eadd p m) a b, 0)) : V_rwAdd P M mf a b Q := by
  unfold LB at hl
  refine ⟨fun e => h0 (by omega), fun e => ⟨⟨by omega, by omega, by omega⟩, fun x z => ∃ k : Nat, z = k ∧ k ≤ a.length ∧ x.length = a.length ∧ ∀ j, j < k → vo x j = eadd p m (vo a j) (vo b j), fun x z => (a.length - z).toNat, ⟨0, rfl, Nat.zero_le _, by simp, fun j hj => absurd hj (Nat.not_lt_zero _)⟩, ?_⟩⟩
  rintro x _ ⟨k, rfl, hk, hx, hv⟩
  dsimp only
  rw [gi_nat, gi_nat]
  refine ⟨fun hlt => ⟨⟨by omega, by omega⟩, ⟨by omega, by omega⟩, _, v_rAdd F rfl, ?_⟩, fun hge => by rw [zw_end (by omega) hx hv]; exact h1 (by omega)⟩
  obtain ⟨s1, s2⟩ := zw_step (f := eadd p m) (a := a) (b := b) (k := k) (by omega) hx hv
  exact ⟨⟨by omega, by omega⟩, ⟨by omega, by omega⟩, ⟨k + 1, by push_cast; rfl, by omega, s1, s2⟩, by omega⟩
theorem v_rwSub (F : FV P M mf p m v) {a b : List Int} {Q : List Int × Int → Prop} (hl : a.length ≤ LB) (h0 : a.length ≠ b.length → Q ([], 4)) (h1 : a.length = b.length → Q (zwf (esub p m) a b, 0)) : V_rwSub P M mf a b Q := by
  unfold LB at hl
  refine ⟨fun e => h0 (by omega), fun e => ⟨⟨by omega, by omega, by omega⟩, fun x z => ∃ k : Nat, z = k ∧ k ≤ a.length ∧ x.length = a.length ∧ ∀ j, j < k → vo x j = esub p m (vo a j) (vo b j), fun x z => (a.length - z).toNat, ⟨0, rfl, Nat.zero_le _, by simp, fun j hj => absurd hj (Nat.not_lt_zero _)⟩, ?_⟩⟩
  rintro x _ ⟨k, rfl, hk, hx, hv⟩
  dsimp only
  rw [gi_nat, gi_nat]
  refine ⟨fun hlt => ⟨⟨by omega, by omega⟩, ⟨by omega, by omega⟩, _, v_rSub F rfl, ?_⟩, fun hge => by rw [zw_end (by omega) hx hv]; exact h1 (by omega)⟩
  obtain ⟨s1, s2⟩ := zw_step (f := esub p m) (a := a) (b := b) (k := k) (by omega) hx hv
  exact ⟨⟨by omega, by omega⟩, ⟨by omega, by omega⟩, ⟨k + 1, by push_cast; rfl, by omega, s1, s2⟩, by omega⟩
end
/-- A difference undoes a sum. -/
theorem sub_add {p m : Nat} (hp : 0 < p) {a b : List Int} : zwf (esub p m) (zwf (eadd p m) a b) b = cl (p ^ m) a := by
  have hq : 0 < p ^ m := Nat.pow_pos hp
  refine vo_ext (by rw [zwf_len, zwf_len, cl_len]) fun i hi => ?_
  rw [zwf_len, zwf_len] at hi
  rw [zwf_at (by rw [zwf_len]; exact hi), zwf_at hi, cl_at hi]
  unfold esub
  rw [inE_eadd hp]
  have h1 := inE_lt hq (vo a i)
  have h2 := inE_lt hq (vo b i)
  rw [fadd_assoc hp h1 h2 (fneg_lt hp _), fadd_neg hp h2, fadd_zero hp h1]
end Go.Proofs.Ytcmfjjbbcfddpaa
set_option linter.unusedSimpArgs false
set_option linter.unusedVariables false
set_option maxRecDepth 4000
set_option maxHeartbeats 4000000
namespace Go.Proofs.Ytcmfjjbbcfddpaa
open Go.RowKit
def V_LAdds (Pf : Int) (Mf : Int) (mf : List Int) (a : List Int) (b : List Int) (Q : Bool → Prop) : Prop :=
  V_open Pf Mf mf (fun q => match q with | (none, r15) => Q r15 | (some F16, _) => V_wAdd F16 a b (fun q => match q with | (x23, r27) => V_rwAdd Pf Mf mf a b (fun q => match q with | (x29, r33) => ((r27 ≠ r33) → Q false) ∧ (¬ (r27 ≠ r33) → (V_rwSame x23 x29 (fun r36 => (((!r36) = true) → Q false) ∧ ((!r36) = false → (V_wSub F16 a b (fun q => match q with | (x39, r43) => V_rwSub Pf Mf mf a b (fun q => match q with | (x45, r49) => ((r43 ≠ r49) → Q false) ∧ (¬ (r43 ≠ r49) → (V_rwSame x39 x45 (fun r52 => (((!r52) = true) → Q false) ∧ ((!r52) = false → (∃ J54 : Prop, (((r33 = (0 : Int)) → (V_wSub F16 x23 b (fun q => match q with | (x57, r61) => ((r61 ≠ (0 : Int)) → Q false) ∧ (¬ (r61 ≠ (0 : Int)) → (V_rClean Pf Mf mf a (fun x64 => V_rwSame x57 x64 (fun r69 => (((!r69) = true) → Q false) ∧ ((!r69) = false → J54)))))))) ∧ (¬ (r33 = (0 : Int)) → J54)) ∧ (J54 → (V_wAdd F16 ([(1 : Int), (0 : Int)] : List Int) ([(0 : Int), (1 : Int)] : List Int) (fun q => match q with | (x79, r83) => ((r83 = (0 : Int)) → (V_rwSame x79 ([(1 : Int), (1 : Int)] : List Int) (fun r89 => Q r89))) ∧ (¬ (r83 = (0 : Int)) → Q false)))))))))))))))))))
theorem ok_LAdds {w : World} {Q : Bool → Prop} {Pf : Int} {Mf : Int} {mf : List Int} {a : List Int} {b : List Int} {Bf : Nat} {Af : Option Addr} {nf kf : Nat} (hf : Rd Bf w 1 Af nf kf (is mf)) {Ba : Nat} {Aa : Option Addr} {na ka : Nat} (ha : Rd Ba w 1 Aa na ka (is a)) {Bb : Nat} {Ab : Option Addr} {nb kb : Nat} (hb : Rd Bb w 1 Ab nb kb (is b)) (hv : V_LAdds Pf Mf mf a b Q) :
    Calls Try.prog 6 #[.agg #[.int .i64 Pf, .int .i64 Mf, .slice Af nf kf], .slice Aa na ka, .slice Ab nb kb] w fun e w' => ∃ v Qr, e = .returned v ∧ w.grownBy w' none ∧ Rows w.heap.size none w' Qr ∧ News w.heap.size Qr ∧ ∃ (r0 : Bool), v = .bool r0 ∧ Qr = [] ∧ Q r0 := by
  have hnf := hf.ilen
  subst hnf
  have hna := ha.ilen
  subst hna
  have hnb := hb.ilen
  subst hnb
  refine calls_swap <| calls_of_W (vs := [.agg #[.int .i64 Pf, .int .i64 Mf, .slice Af mf.length kf], .slice Aa a.length ka, .slice Ab b.length kb]) [6] XF6 rfl rfl rfl rfl ?_
  have hS := St.start w
  unfold V_LAdds at hv
  refine W.seq <| W.region <| SL.box (z := 3) (cs := [.int .i64 Pf, .int .i64 Mf, .slice Af mf.length kf]) hS rfl rfl rfl rfl ?_
  intro g11 w12 hS
  refine WL.assign rfl rfl <| WL.done <| W.seq <| W.region <| WL.loadV (cs := [.int .i64 Pf, .int .i64 Mf, .slice Af mf.length kf]) XE24 XG24 rfl rfl (Own.vcells (hS.own (i := 0) rfl)) rfl <| SL.call hS (ok_open (hS.ro hf) hv) XF17 rfl XN17 rfl rfl ?_
  rintro _ _ w14 ⟨o, r15, hv, hK⟩ hGw14 hS
  cases o with
  | none =>
    obtain ⟨rfl, rfl⟩ := hK
    change St _ _ _ _ [.row 24 3 (some ⟨g11, 0, none⟩) 1 1 [.int .i64 Pf, .int .i64 Mf, .slice Af mf.length kf]] at hS
    refine WL.move rfl rfl <| WL.extract rfl rfl rfl <| WL.extract rfl rfl rfl <| WL.extract rfl rfl rfl <| WL.assign rfl rfl <| WL.assign rfl rfl <| WL.assign rfl rfl <| WL.done <| W.seq <| W.seq <| W.region <| WL.move rfl rfl <| WL.done <| W.condT rfl <| W.seq <| W.region <| WL.move rfl rfl <| WL.assign rfl rfl <| WL.done <| W.ret <| ⟨_, rfl, Fin.nil ?_⟩
    exact ⟨_, hS.ext, (hS.pick [] rfl).rows, News.of (hS.pick [] rfl).rows rfl, ⟨r15, rfl, rfl, hv⟩⟩
  | some F16 =>
    obtain ⟨ad17, lo18, hi19, rfl, rfl⟩ := hK
    change St _ _ _ _ [.ch lo18 hi19 (fun wz => GFX lo18 hi19 wz ad17 F16), .row 24 3 (some ⟨g11, 0, none⟩) 1 1 [.int .i64 Pf, .int .i64 Mf, .slice Af mf.length kf]] at hS
    refine WL.move rfl rfl <| WL.extract rfl rfl rfl <| WL.extract rfl rfl rfl <| WL.extract rfl rfl rfl <| WL.assign rfl rfl <| WL.assign rfl rfl <| WL.assign rfl rfl <| WL.done <| W.seq <| W.seq <| W.region <| WL.move rfl rfl <| WL.done <| W.condF rfl <| W.skip <| W.seq <| W.region <| WL.move rfl rfl <| WL.move rfl rfl <| WL.move rfl rfl <| SL.call hS (ok_wAdd (GFX.gfr (hS.chunk (i := 0) rfl)) (hS.ro ha) (hS.ro hb) hv) XF27 rfl XN27 rfl rfl ?_
    rintro _ _ w22 ⟨x23, r27, A24, k25, rfl, rfl, hv⟩ hGw22 hS
    have hS := hS.n1
    refine WL.move rfl rfl <| WL.extract rfl rfl rfl <| WL.extract rfl rfl rfl <| WL.assign rfl rfl <| WL.assign rfl rfl <| WL.done <| W.seq <| W.region <| WL.loadV (cs := [.int .i64 Pf, .int .i64 Mf, .slice Af mf.length kf]) XE24 XG24 rfl rfl (Own.vcells (hS.own (i := 2) rfl)) rfl <| WL.move rfl rfl <| WL.move rfl rfl <| SL.call hS (ok_rwAdd (hS.ro hf) (hS.ro ha) (hS.ro hb) hv) XF28 rfl XN28 rfl rfl ?_
    rintro _ _ w28 ⟨x29, r33, A30, k31, rfl, rfl, hv⟩ hGw28 hS
    have hS := hS.n1
    refine WL.move rfl rfl <| WL.extract rfl rfl rfl <| WL.extract rfl rfl rfl <| WL.assign rfl rfl <| WL.assign rfl rfl <| WL.done <| W.seq <| W.seq <| W.region <| WL.move rfl rfl <| WL.move rfl rfl <| WL.neqD rfl rfl rfl <| WL.move rfl rfl ?_
    by_cases g34 : r27 ≠ r33
    ·have hv := hv.1 g34
     rw [decide_eq_true g34]
     refine WL.pass rfl rfl rfl <| WL.pass rfl rfl rfl <| WL.pass rfl rfl rfl <| WL.pass rfl rfl rfl <| WL.pick rfl rfl rfl <| WL.done <| W.condT rfl <| W.seq <| W.region <| WL.assign rfl rfl <| WL.done <| W.ret <| ⟨_, rfl, Fin.nil ?_⟩
     exact ⟨_, hS.ext, (hS.pick [] rfl).rows, News.of (hS.pick [] rfl).rows rfl, ⟨false, rfl, rfl, hv⟩⟩
    have hv := hv.2 g34
    rw [decide_eq_false g34]
    refine WL.take rfl <| WL.move rfl rfl <| WL.take rfl <| WL.move rfl rfl <| WL.take rfl <| SL.call hS (ok_rwSame (hS.rd (i := 1) rfl) (hS.rd (i := 0) rfl) hv) XF18 rfl XN18 rfl rfl ?_
    rintro _ _ w35 ⟨r36, rfl, rfl, hv⟩ hGw35 hS
    have hS := hS.n0
    refine WL.take rfl <| WL.not rfl rfl <| WL.pick rfl rfl rfl <| WL.done <| W.cond2 rfl (fun c37 => ?_) (fun c37 => ?_)
    ·have hv := hv.1 (c37)
     refine W.seq <| W.region <| WL.assign rfl rfl <| WL.done <| W.ret <| ⟨_, rfl, Fin.nil ?_⟩
     exact ⟨_, hS.ext, (hS.pick [] rfl).rows, News.of (hS.pick [] rfl).rows rfl, ⟨false, rfl, rfl, hv⟩⟩
    have hv := hv.2 (c37)
    refine W.skip <| W.seq <| W.region <| WL.move rfl rfl <| WL.move rfl rfl <| WL.move rfl rfl <| SL.call hS (ok_wSub (GFX.gfr (hS.chunk (i := 2) rfl)) (hS.ro ha) (hS.ro hb) hv) XF26 rfl XN26 rfl rfl ?_
    rintro _ _ w38 ⟨x39, r43, A40, k41, rfl, rfl, hv⟩ hGw38 hS
    have hS := hS.n1
    refine WL.move rfl rfl <| WL.extract rfl rfl rfl <| WL.extract rfl rfl rfl <| WL.assign rfl rfl <| WL.assign rfl rfl <| WL.done <| W.seq <| W.region <| WL.loadV (cs := [.int .i64 Pf, .int .i64 Mf, .slice Af mf.length kf]) XE24 XG24 rfl rfl (Own.vcells (hS.own (i := 4) rfl)) rfl <| WL.move rfl rfl <| WL.move rfl rfl <| SL.call hS (ok_rwSub (hS.ro hf) (hS.ro ha) (hS.ro hb) hv) XF29 rfl XN29 rfl rfl ?_
    rintro _ _ w44 ⟨x45, r49, A46, k47, rfl, rfl, hv⟩ hGw44 hS
    have hS := hS.n1
    refine WL.move rfl rfl <| WL.extract rfl rfl rfl <| WL.extract rfl rfl rfl <| WL.assign rfl rfl <| WL.assign rfl rfl <| WL.done <| W.seq <| W.seq <| W.region <| WL.move rfl rfl <| WL.move rfl rfl <| WL.neqD rfl rfl rfl <| WL.move rfl rfl ?_
    by_cases g50 : r43 ≠ r49
    ·have hv := hv.1 g50
     rw [decide_eq_true g50]
     refine WL.pass rfl rfl rfl <| WL.pass rfl rfl rfl <| WL.pass rfl rfl rfl <| WL.pass rfl rfl rfl <| WL.pick rfl rfl rfl <| WL.done <| W.condT rfl <| W.seq <| W.region <| WL.assign rfl rfl <| WL.done <| W.ret <| ⟨_, rfl, Fin.nil ?_⟩
     exact ⟨_, hS.ext, (hS.pick [] rfl).rows, News.of (hS.pick [] rfl).rows rfl, ⟨false, rfl, rfl, hv⟩⟩
    have hv := hv.2 g50
    rw [decide_eq_false g50]
    refine WL.take rfl <| WL.move rfl rfl <| WL.take rfl <| WL.move rfl rfl <| WL.take rfl <| SL.call hS (ok_rwSame (hS.rd (i := 1) rfl) (hS.rd (i := 0) rfl) hv) XF18 rfl XN18 rfl rfl ?_
    rintro _ _ w51 ⟨r52, rfl, rfl, hv⟩ hGw51 hS
    have hS := hS.n0
    refine WL.take rfl <| WL.not rfl rfl <| WL.pick rfl rfl rfl <| WL.done <| W.cond2 rfl (fun c53 => ?_) (fun c53 => ?_)
    ·have hv := hv.1 (c53)
     refine W.seq <| W.region <| WL.assign rfl rfl <| WL.done <| W.ret <| ⟨_, rfl, Fin.nil ?_⟩
     exact ⟨_, hS.ext, (hS.pick [] rfl).rows, News.of (hS.pick [] rfl).rows rfl, ⟨false, rfl, rfl, hv⟩⟩
    have hv := hv.2 (c53)
    refine W.skip <| W.seq <| W.seq <| W.region <| WL.move rfl rfl <| WL.eqlD rfl rfl rfl <| WL.done ?_
    obtain ⟨J54, hv, hk90⟩ := hv
    refine W.cutN (σ := Unit) (fun _ w1 => J54 ∧ St TT w none w1 [.row 3 1 A46 x45.length k47 (is x45), .row 3 1 A40 x39.length k41 (is x39), .row 3 1 A30 x29.length k31 (is x29), .row 3 1 A24 x23.length k25 (is x23), .ch lo18 hi19 (fun wz => GFX lo18 hi19 wz ad17 F16), .row 24 3 (some ⟨g11, 0, none⟩) 1 1 [.int .i64 Pf, .int .i64 Mf, .slice Af mf.length kf]]) (fun _ => [(6, .bool false), (7, .pointer (some ad17))]) ?_ ?_
    ·refine W.cond2 rfl (fun c55 => ?_) (fun c55 => ?_)
     ·have hv := hv.1 (of_decide_eq_true c55)
      refine W.seq <| W.region <| WL.move rfl rfl <| WL.move rfl rfl <| WL.move rfl rfl <| SL.call hS (ok_wSub (GFX.gfr (hS.chunk (i := 4) rfl)) (hS.rd (i := 3) rfl) (hS.ro hb) hv) XF26 rfl XN26 rfl rfl ?_
      rintro _ _ w56 ⟨x57, r61, A58, k59, rfl, rfl, hv⟩ hGw56 hS
      have hS := hS.n1
      refine WL.move rfl rfl <| WL.extract rfl rfl rfl <| WL.extract rfl rfl rfl <| WL.assign rfl rfl <| WL.assign rfl rfl <| WL.done <| W.seq <| W.region <| WL.move rfl rfl <| WL.neqD rfl rfl rfl <| WL.move rfl rfl ?_
      by_cases g62 : r61 ≠ (0 : Int)
      ·have hv := hv.1 g62
       rw [decide_eq_true g62]
       refine WL.pass rfl rfl rfl <| WL.pass rfl rfl rfl <| WL.pass rfl rfl rfl <| WL.pass rfl rfl rfl <| WL.pass rfl rfl rfl <| WL.pass rfl rfl rfl <| WL.pick rfl rfl rfl <| WL.done <| W.condT rfl <| W.seq <| W.region <| WL.assign rfl rfl <| WL.done <| W.ret <| ⟨_, rfl, Fin.nil ?_⟩
       exact ⟨_, hS.ext, (hS.pick [] rfl).rows, News.of (hS.pick [] rfl).rows rfl, ⟨false, rfl, rfl, hv⟩⟩
      have hv := hv.2 g62
      rw [decide_eq_false g62]
      refine WL.take rfl <| WL.move rfl rfl <| WL.take rfl <| WL.loadV (cs := [.int .i64 Pf, .int .i64 Mf, .slice Af mf.length kf]) XE24 XG24 rfl rfl (Own.vcells (hS.own (i := 6) rfl)) rfl <| WL.take rfl <| WL.move rfl rfl <| WL.take rfl <| SL.call hS (ok_rClean (hS.ro hf) (hS.ro ha) hv) XF20 rfl XN20 rfl rfl ?_
      rintro _ _ w63 ⟨x64, A65, k66, rfl, rfl, hv⟩ hGw63 hS
      have hS := hS.n1
      refine WL.take rfl <| SL.call hS (ok_rwSame (hS.rd (i := 1) rfl) (hS.rd (i := 0) rfl) hv) XF18 rfl XN18 rfl rfl ?_
      rintro _ _ w68 ⟨r69, rfl, rfl, hv⟩ hGw68 hS
      have hS := hS.n0
      refine WL.take rfl <| WL.not rfl rfl <| WL.pick rfl rfl rfl <| WL.done <| W.cond2 rfl (fun c70 => ?_) (fun c70 => ?_)
      ·have hv := hv.1 (c70)
       refine W.seq <| W.region <| WL.assign rfl rfl <| WL.done <| W.ret <| ⟨_, rfl, Fin.nil ?_⟩
       exact ⟨_, hS.ext, (hS.pick [] rfl).rows, News.of (hS.pick [] rfl).rows rfl, ⟨false, rfl, rfl, hv⟩⟩
      have hv := hv.2 (c70)
      refine W.skip ?_
      have hS := hS.pick [2, 3, 4, 5, 6, 7] rfl
      exact ⟨(), ⟨rfl, rfl, trivial⟩, rfl, hv, hS⟩
     have hv := hv.2 (of_decide_eq_false c55)
     refine W.skip ?_
     exact ⟨(), ⟨rfl, rfl, trivial⟩, rfl, hv, hS⟩
    rintro _ w71 ⟨hv, hS⟩
    have hv := hk90  hv
    refine W.seq <| W.region <| WL.move rfl rfl <| SL.lit1 (vs := is ([(1 : Int), (0 : Int)] : List Int)) hS XU22 XE3 rfl rfl rfl rfl (is_one _) rfl ?_
    intro A72 w73 hS
    refine SL.lit1 (vs := is ([(0 : Int), (1 : Int)] : List Int)) hS XU22 XE3 rfl rfl rfl rfl (is_one _) rfl ?_
    intro A75 w76 hS
    refine SL.call hS (ok_wAdd (GFX.gfr (hS.chunk (i := 6) rfl)) (hS.rd (i := 1) rfl) (hS.rd (i := 0) rfl) hv) XF27 rfl XN27 rfl rfl ?_
    rintro _ _ w78 ⟨x79, r83, A80, k81, rfl, rfl, hv⟩ hGw78 hS
    have hS := hS.n1
    refine WL.move rfl rfl <| WL.extract rfl rfl rfl <| WL.extract rfl rfl rfl <| WL.assign rfl rfl <| WL.assign rfl rfl <| WL.done <| W.seq <| W.region <| WL.move rfl rfl <| WL.eqlD rfl rfl rfl <| WL.move rfl rfl ?_
    by_cases g84 : r83 = (0 : Int)
    ·have hv := hv.1 g84
     rw [decide_eq_true g84]
     refine WL.take rfl <| WL.move rfl rfl <| WL.take rfl <| SL.lit1 (vs := is ([(1 : Int), (1 : Int)] : List Int)) hS XU22 XE3 rfl rfl rfl rfl (is_one _) rfl ?_
     intro A85 w86 hS
     refine WL.take rfl <| SL.call hS (ok_rwSame (hS.rd (i := 1) rfl) (hS.rd (i := 0) rfl) hv) XF18 rfl XN18 rfl rfl ?_
     rintro _ _ w88 ⟨r89, rfl, rfl, hv⟩ hGw88 hS
     have hS := hS.n0
     refine WL.pick rfl rfl rfl <| WL.assign rfl rfl <| WL.done <| W.ret <| ⟨_, rfl, Fin.nil ?_⟩
     exact ⟨_, hS.ext, (hS.pick [] rfl).rows, News.of (hS.pick [] rfl).rows rfl, ⟨r89, rfl, rfl, hv⟩⟩
    have hv := hv.2 g84
    rw [decide_eq_false g84]
    refine WL.pass rfl rfl rfl <| WL.pass rfl rfl rfl <| WL.pass rfl rfl rfl <| WL.pick rfl rfl rfl <| WL.assign rfl rfl <| WL.done <| W.ret <| ⟨_, rfl, Fin.nil ?_⟩
    exact ⟨_, hS.ext, (hS.pick [] rfl).rows, News.of (hS.pick [] rfl).rows rfl, ⟨false, rfl, rfl, hv⟩⟩
end Go.Proofs.Ytcmfjjbbcfddpaa
set_option linter.unusedVariables false
set_option linter.unusedSimpArgs false
namespace Go.Proofs.Ytcmfjjbbcfddpaa
section
variable {P M : Int} {mf : List Int}
theorem eadd_ex {p m v : Nat} (hF : FV P M mf p m v) : zwf (eadd p m) [1, 0] [0, 1] = [1, 1] := by
  have hq := hF.ring.q2
  have h1 : eadd p m 1 0 = 1 := by unfold eadd; rw [inE_1 hq, inE_0 hq, hF.ring.Az (by omega)]; rfl
  have h2 : eadd p m 0 1 = 1 := by unfold eadd; rw [inE_1 hq, inE_0 hq, hF.ring.Ac, hF.ring.Az (by omega)]; rfl
  show [eadd p m 1 0, eadd p m 0 1] = _
  rw [h1, h2]
theorem law_WordAdds {a b : List Int} (ha : a.length ≤ LB) (hb : b.length ≤ LB) : V_LAdds P M mf a b (fun b => b = true) := by
  refine w_open (fun _ => rfl) fun F p m v g K hF => ?_
  have hp : 0 < p := by have := hF.p2; omega
  have fin : V_wAdd F [1, 0] [0, 1] (fun q => match q with | (x79, r83) => ((r83 = (0 : Int)) → (V_rwSame x79 ([(1 : Int), (1 : Int)] : List Int) (fun r89 => (fun b => b = true) r89))) ∧ (¬ (r83 = (0 : Int)) → (fun b => b = true) false)) := by
    refine v_wAdd K (by simp [LB]) (fun e => absurd rfl e) fun _ => ⟨fun _ => ?_, fun c => absurd rfl c⟩
    rw [eadd_ex hF]
    exact v_rwSame (by simp) (decide_eq_true rfl)
  by_cases e : a.length = b.length
  · refine v_wAdd K ha (fun c => absurd e c) fun _ => v_rwAdd hF ha (fun c => absurd e c) fun _ => ⟨fun c => absurd rfl c, fun _ => v_rwSame (by rw [zwf_len]; exact LB62 ha) ?_⟩
    rw [decide_eq_true rfl]
    refine ⟨fun h => absurd h (by decide), fun _ => v_wSub K ha (fun c => absurd e c) fun _ => v_rwSub hF ha (fun c => absurd e c) fun _ => ⟨fun c => absurd rfl c, fun _ => v_rwSame (by rw [zwf_len]; exact LB62 ha) ?_⟩⟩
    rw [decide_eq_true rfl]
    refine ⟨fun h => absurd h (by decide), fun _ => ⟨True, ⟨fun _ => v_wSub K (by rw [zwf_len]; exact ha) (fun c => absurd (by rw [zwf_len]; exact e) c) fun _ => ⟨fun c => absurd rfl c, fun _ => v_rClean hF ha (v_rwSame (by rw [zwf_len, zwf_len]; exact LB62 ha) ?_)⟩, fun _ => trivial⟩, fun _ => fin⟩⟩
    rw [decide_eq_true (sub_add hp)]
    exact ⟨fun h => absurd h (by decide), fun _ => trivial⟩
  · refine v_wAdd K ha (fun _ => v_rwAdd hF ha (fun _ => ⟨fun c => absurd rfl c, fun _ => v_rwSame (by simp) ?_⟩) fun c => absurd c e) fun c => absurd c e
    rw [decide_eq_true rfl]
    refine ⟨fun h => absurd h (by decide), fun _ => v_wSub K ha (fun _ => v_rwSub hF ha (fun _ => ⟨fun c => absurd rfl c, fun _ => v_rwSame (by simp) ?_⟩) fun c => absurd c e) fun c => absurd c e⟩
    rw [decide_eq_true rfl]
    exact ⟨fun h => absurd h (by decide), fun _ => ⟨True, ⟨fun c => absurd c (by decide), fun _ => trivial⟩, fun _ => fin⟩⟩
end
end Go.Proofs.Ytcmfjjbbcfddpaa
