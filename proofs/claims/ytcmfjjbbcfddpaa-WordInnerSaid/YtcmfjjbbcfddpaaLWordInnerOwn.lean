/- What only this law leans on. -/
import Derived.Test.YtcmfjjbbcfddpaaWordAddsG6
namespace Go.Proofs.Ytcmfjjbbcfddpaa
open Go.RowKit

section
variable {P : Program} {n : Nat} {ro : Option Nat} {df : List Deferred} {N : Post} {L : Fr} {w : World} {ops : Array Oper} {rest : List Oper}
variable {d : Nat} {ty : TypeId} {pos : String} {af : Array Edge}

theorem WL.min2 {x y : Operand} {k : IntKind} {a b r : Int} {ts : Array TypeId} (hx : ev L x = some (.int k a)) (hy : ev L y = some (.int k b)) (hr : min a b = r) (hn : Nat.blt d n = true) (h : WL P n ro df ops rest N ((d, .int k r) :: L) w) :
    WL P n ro df ops (⟨some d, .call ⟨.builtin .min, #[x, y], ts⟩, ty, pos, af, none⟩ :: rest) N L w :=
  WL.val rfl rfl hn (fun a' ha => by
    have e : (if b < a then b else a) = r := by rw [← hr]; split <;> omega
    simp [execOp, resolve, invoke, builtin, Builtin.min_, Builtin.min2, ha.ev hx, ha.ev hy, ← e]) h
end
end Go.Proofs.Ytcmfjjbbcfddpaa
set_option linter.unusedVariables false
namespace Go.Proofs.Ytcmfjjbbcfddpaa
open Go.RowKit
theorem Try.nm30 : (Try.f30.name == "runtime.NumGoroutine") = false := by kernel_rfl
theorem Try.nm31 : (Try.f31.name == "runtime.NumGoroutine") = false := by kernel_rfl
theorem Try.nm61 : (Try.f61.name == "runtime.NumGoroutine") = false := by kernel_rfl
theorem Try.nm62 : (Try.f62.name == "runtime.NumGoroutine") = false := by kernel_rfl
theorem Try.nm90 : (Try.f90.name == "runtime.NumGoroutine") = false := by kernel_rfl
end Go.Proofs.Ytcmfjjbbcfddpaa
namespace Go.Proofs.Ytcmfjjbbcfddpaa
open Go.RowKit
abbrev XF30 := Try.func30
abbrev XF31 := Try.func31
abbrev XF61 := Try.func61
abbrev XF62 := Try.func62
abbrev XF7 := Try.func7
abbrev XF90 := Try.func90
abbrev XN30 := Try.nm30
abbrev XN31 := Try.nm31
abbrev XN61 := Try.nm61
abbrev XN62 := Try.nm62
abbrev XN90 := Try.nm90
end Go.Proofs.Ytcmfjjbbcfddpaa
set_option linter.unusedSimpArgs false
set_option linter.unusedVariables false
set_option maxRecDepth 4000
set_option maxHeartbeats 4000000
namespace Go.Proofs.Ytcmfjjbbcfddpaa
open Go.RowKit
def V_Dot (Fg : GFv) (l : List Int) (o : List Int) (Q : Int → Prop) : Prop :=
  ∃ (I17 : Int → Int → Prop) (μ18 : Int → Int → Nat), I17 (0 : Int) (0 : Int) ∧ ∀ (z15 : Int) (z16 : Int), (I17 z15 z16 → (((z16 < (min ((l.length : Nat) : Int) ((o.length : Nat) : Int))) → ((0 ≤ z16 ∧ z16 < (l.length : Nat)) ∧ ((0 ≤ z16 ∧ z16 < (o.length : Nat)) ∧ (∃ (r35 : Int), V_Mul Fg (gi l z16) (gi o z16) (fun q => q = r35) ∧ (∃ (r39 : Int), V_Add Fg z15 r35 (fun q => q = r39) ∧ ((I64 (z16 + (1 : Int))) ∧ (I17 r39 (z16 + (1 : Int)) ∧ μ18 r39 (z16 + (1 : Int)) < μ18 z15 z16))))))) ∧ (¬ (z16 < (min ((l.length : Nat) : Int) ((o.length : Nat) : Int))) → Q z15)))
theorem ok_Dot {w : World} {Q : Int → Prop} {Fg : GFv} {l : List Int} {o : List Int} {ag : Addr} {Bg : Nat} (hgg : GFR Bg w ag Fg) {Bl : Nat} {Al : Option Addr} {nl kl : Nat} (hl : Rd Bl w 1 Al nl kl (is l)) {Bo : Nat} {Ao : Option Addr} {no ko : Nat} (ho : Rd Bo w 1 Ao no ko (is o)) (hv : V_Dot Fg l o Q) :
    Calls Try.prog 61 #[.pointer (some ag), .slice Al nl kl, .slice Ao no ko] w fun e w' => ∃ v Qr, e = .returned v ∧ w.grownBy w' none ∧ Rows w.heap.size none w' Qr ∧ News w.heap.size Qr ∧ ∃ (r0 : Int), v = .int .i64 r0 ∧ Qr = [] ∧ Q r0 := by
  have hgg_ := hgg
  obtain ⟨Ag_mod, kg_mod, Ag_exp, kg_exp, Ag_log, kg_log, Ag_above, kg_above, hg_c, hg_mod, hg_exp, hg_log, hg_above⟩ := hgg_
  have hnl := hl.ilen
  subst hnl
  have hno := ho.ilen
  subst hno
  refine calls_swap <| calls_of_W (vs := [.pointer (some ag), .slice Al l.length kl, .slice Ao o.length ko]) [6] XF61 rfl rfl rfl rfl ?_
  have hS := St.start w
  unfold V_Dot at hv
  refine W.seq <| W.region <| WL.assign rfl rfl <| WL.done <| W.seq <| W.region <| WL.assign rfl rfl <| WL.done <| W.seq <| W.seq <| W.region <| WL.move rfl rfl <| WL.len XU22 rfl rfl <| WL.move rfl rfl <| WL.len XU22 rfl rfl <| WL.min2 (r := (min ((l.length : Nat) : Int) ((o.length : Nat) : Int))) rfl rfl rfl rfl <| WL.move rfl rfl <| WL.done <| W.block ?_
  obtain ⟨I17, μ18, hv, hk45⟩ := hv
  refine W.loop (σ := Int × Int) (fun q w1 => match q with | (z15, z16) => I17 z15 z16 ∧ St TT w none w1 []) (fun q => match q with | (z15, z16) => [(0, .pointer (some ag)), (1, .slice Al l.length kl), (2, .slice Ao o.length ko), (6, .int .i64 (0 : Int)), (7, .int .i64 z15), (13, .int .i64 (min ((l.length : Nat) : Int) ((o.length : Nat) : Int))), (14, .int .i64 z16)]) (fun q => match q with | (z15, z16) => μ18 z15 z16) ((0 : Int), (0 : Int)) ⟨hv, hS⟩ ⟨rfl, rfl, rfl, rfl, rfl, rfl, rfl, trivial⟩ ?_
  rintro ⟨z15, z16⟩ w19 ⟨hv, hS⟩
  have hv := hk45 z15 z16 hv
  refine W.seq <| W.region <| WL.lssD rfl rfl rfl <| WL.done <| W.seq <| W.cond2 rfl (fun c20 => ?_) (fun c20 => ?_)
  ·have hv := hv.1 (of_decide_eq_true c20)
   refine W.skip <| W.seq <| W.block <| W.seq <| W.region <| WL.move rfl rfl <| WL.assign rfl rfl <| WL.done ?_
   obtain ⟨o27, hv⟩ := hv
   obtain ⟨o32, hv⟩ := hv
   obtain ⟨r35, o37, hv⟩ := hv
   obtain ⟨r39, o41, hv⟩ := hv
   refine W.drawV 14 [⟨[], [0], true⟩, ⟨[], [7], true⟩, ⟨[], [0], true⟩, ⟨[], [1], true⟩, ⟨[], [8], true⟩, ⟨[3, 4], [], true⟩, ⟨[5], [], false⟩, ⟨[], [2], true⟩, ⟨[], [8], true⟩, ⟨[7, 8], [], true⟩, ⟨[9], [], false⟩, ⟨[2, 6, 10], [], false⟩, ⟨[0, 1, 11], [], false⟩, ⟨[12], [], true⟩] [[(0, .pointer (some ag))], [(7, .int .i64 z15)], [(0, .pointer (some ag))], [(1, .slice Al l.length kl)], [(8, .int .i64 z16)], [], [], [(2, .slice Ao o.length ko)], [(8, .int .i64 z16)], [], [], [], [], []] [(17, .pointer (some ag)), (18, .int .i64 z15), (19, .pointer (some ag)), (20, .slice Al l.length kl), (21, .int .i64 z16), (22, .pointer (some ((adOf Al).add z16.toNat))), (23, .int .i64 (gi l z16)), (24, .slice Ao o.length ko), (25, .int .i64 z16), (26, .pointer (some ((adOf Ao).add z16.toNat))), (27, .int .i64 (gi o z16)), (28, .int .i64 r35), (29, .int .i64 r39), (7, .int .i64 r39)] Try.mixed (by kernel_rfl) rfl rfl ?_ ?_
   · refine ⟨⟨rfl, ⟨rfl, trivial⟩, fun _ _ _ => WL.move rfl rfl <| WL.done ⟨rfl, rfl⟩⟩, ⟨rfl, ⟨rfl, trivial⟩, fun _ _ _ => WL.move rfl rfl <| WL.done ⟨rfl, rfl⟩⟩, ⟨rfl, ⟨rfl, trivial⟩, fun _ _ _ => WL.move rfl rfl <| WL.done ⟨rfl, rfl⟩⟩, ⟨rfl, ⟨rfl, trivial⟩, fun _ _ _ => WL.move rfl rfl <| WL.done ⟨rfl, rfl⟩⟩, ⟨rfl, ⟨rfl, trivial⟩, fun _ _ _ => WL.move rfl rfl <| WL.done ⟨rfl, rfl⟩⟩, ⟨rfl, trivial, fun _ _ _ => SL.index XU22 XE3 (hS.ro hl) rfl rfl o27 rfl <| WL.done ⟨rfl, rfl⟩⟩, ⟨rfl, trivial, fun _ hE _ => have hS := hS.grow (hE rfl); WL.load XU3 rfl rfl (Rd.gi (hS.ro hl) o27) rfl <| WL.done ⟨rfl, ext_refl _⟩⟩, ⟨rfl, ⟨rfl, trivial⟩, fun _ _ _ => WL.move rfl rfl <| WL.done ⟨rfl, rfl⟩⟩, ⟨rfl, ⟨rfl, trivial⟩, fun _ _ _ => WL.move rfl rfl <| WL.done ⟨rfl, rfl⟩⟩, ⟨rfl, trivial, fun _ _ _ => SL.index XU22 XE3 (hS.ro ho) rfl rfl o32 rfl <| WL.done ⟨rfl, rfl⟩⟩, ⟨rfl, trivial, fun _ hE _ => have hS := hS.grow (hE rfl); WL.load XU3 rfl rfl (Rd.gi (hS.ro ho) o32) rfl <| WL.done ⟨rfl, ext_refl _⟩⟩, ⟨rfl, trivial, ?_⟩, ⟨rfl, trivial, ?_⟩, ⟨rfl, trivial, fun _ _ _ => WL.assign rfl rfl <| WL.done ⟨rfl, rfl⟩⟩, trivial⟩
     · intro w34 hE RR
       have hS := hS.grow (hE rfl)
       refine WL.call XF89 rfl XN89 rfl rfl (calls_un (ok_Mul (GFR.ext (GFR.norm hgg) hS.ext) o37)) ?_
       rintro _ w36 ⟨_, hGw36, hRww36, hNww36, r35q, rfl, rfl, he⟩
       subst he
       exact WL.done ⟨rfl, hGw36⟩
     intro w38 hE RR
     have hS := hS.grow (hE rfl)
     refine WL.call XF59 rfl XN59 rfl rfl (calls_un (ok_Add (GFR.ext (GFR.norm hgg) hS.ext) o41)) ?_
     rintro _ w40 ⟨_, hGw40, hRww40, hNww40, r39q, rfl, rfl, he⟩
     subst he
     exact WL.done ⟨rfl, hGw40⟩
   intro w43 hT
   have hS := hS.grow hT
   refine WA.done (by decide +kernel) <| W.region ?_
   obtain ⟨o44, hv⟩ := hv
   refine WL.add (r := (z16 + (1 : Int))) rfl rfl (wr o44) rfl <| WL.move rfl rfl <| WL.done ?_
   exact ⟨(r39, (z16 + (1 : Int))), ⟨rfl, rfl, rfl, rfl, rfl, rfl, rfl, trivial⟩, hv.2, rfl, hv.1, hS⟩
  have hv := hv.2 (of_decide_eq_false c20)
  refine W.exit <| W.seq <| W.region <| WL.move rfl rfl <| WL.assign rfl rfl <| WL.done <| W.ret <| ⟨_, rfl, Fin.nil ?_⟩
  exact ⟨_, hS.ext, (hS.pick [] rfl).rows, News.of (hS.pick [] rfl).rows rfl, ⟨z15, rfl, rfl, hv⟩⟩
end Go.Proofs.Ytcmfjjbbcfddpaa
set_option linter.unusedSimpArgs false
set_option linter.unusedVariables false
set_option maxRecDepth 4000
set_option maxHeartbeats 4000000
namespace Go.Proofs.Ytcmfjjbbcfddpaa
open Go.RowKit
def V_rMul (Pf : Int) (Mf : Int) (mf : List Int) (x : Int) (y : Int) (Q : Int → Prop) : Prop :=
  V_rDigits Pf Mf mf x (fun x14 => V_rDigits Pf Mf mf y (fun x19 => (I64 ((2 : Int) * Mf)) ∧ ((I64 (((2 : Int) * Mf) - (1 : Int))) ∧ ((0 ≤ (((2 : Int) * Mf) - (1 : Int)) ∧ (((2 : Int) * Mf) - (1 : Int)) * 8 ≤ 281474976710656 ∧ (((2 : Int) * Mf) - (1 : Int)) ≤ 281474976710656) ∧ (∃ (I35 : List Int → Int → Prop) (μ36 : List Int → Int → Nat), I35 (List.replicate (((2 : Int) * Mf) - (1 : Int)).toNat (0 : Int)) (0 : Int) ∧ ∀ (x33 : List Int) (z34 : Int), (I35 x33 z34 → (((z34 < Mf) → (∃ (I45 : List Int → Int → Prop) (μ46 : List Int → Int → Nat), I45 x33 (0 : Int) ∧ ∀ (x43 : List Int) (z44 : Int), (I45 x43 z44 → (((z44 < Mf) → ((I64 (z34 + z44)) ∧ ((I64 (z34 + z44)) ∧ ((0 ≤ (z34 + z44) ∧ (z34 + z44) < ((((2 : Int) * Mf) - (1 : Int)).toNat : Nat)) ∧ ((0 ≤ z34 ∧ z34 < (x14.length : Nat)) ∧ ((0 ≤ z44 ∧ z44 < (x19.length : Nat)) ∧ ((I64 ((gi x14 z34) * (gi x19 z44))) ∧ ((I64 ((gi x43 (z34 + z44)) + ((gi x14 z34) * (gi x19 z44)))) ∧ ((Pf ≠ 0) ∧ ((0 ≤ (z34 + z44) ∧ (z34 + z44) < ((((2 : Int) * Mf) - (1 : Int)).toNat : Nat)) ∧ ((I64 (z44 + (1 : Int))) ∧ (I45 (si x43 (z34 + z44) (((gi x43 (z34 + z44)) + ((gi x14 z34) * (gi x19 z44))).tmod Pf)) (z44 + (1 : Int)) ∧ μ46 (si x43 (z34 + z44) (((gi x43 (z34 + z44)) + ((gi x14 z34) * (gi x19 z44))).tmod Pf)) (z44 + (1 : Int)) < μ46 x43 z44)))))))))))) ∧ (¬ (z44 < Mf) → ((I64 (z34 + (1 : Int))) ∧ (I35 x43 (z34 + (1 : Int)) ∧ μ36 x43 (z34 + (1 : Int)) < μ36 x33 z34))))))) ∧ (¬ (z34 < Mf) → ((I64 ((2 : Int) * Mf)) ∧ ((I64 (((2 : Int) * Mf) - (2 : Int))) ∧ (∃ (I94 : List Int → Int → Prop) (μ95 : List Int → Int → Nat), I94 x33 (((2 : Int) * Mf) - (2 : Int)) ∧ ∀ (x92 : List Int) (z93 : Int), (I94 x92 z93 → (((Mf ≤ z93) → (∃ (I104 : List Int → Int → Prop) (μ105 : List Int → Int → Nat), I104 x92 (0 : Int) ∧ ∀ (x102 : List Int) (z103 : Int), (I104 x102 z103 → (((z103 < Mf) → ((I64 (z93 - Mf)) ∧ ((I64 ((z93 - Mf) + z103)) ∧ ((I64 (z93 - Mf)) ∧ ((I64 ((z93 - Mf) + z103)) ∧ ((0 ≤ ((z93 - Mf) + z103) ∧ ((z93 - Mf) + z103) < ((((2 : Int) * Mf) - (1 : Int)).toNat : Nat)) ∧ ((0 ≤ z93 ∧ z93 < ((((2 : Int) * Mf) - (1 : Int)).toNat : Nat)) ∧ ((I64 (Pf - (gi x102 z93))) ∧ ((0 ≤ z103 ∧ z103 < (mf.length : Nat)) ∧ ((I64 ((Pf - (gi x102 z93)) * (gi mf z103))) ∧ ((I64 ((gi x102 ((z93 - Mf) + z103)) + ((Pf - (gi x102 z93)) * (gi mf z103)))) ∧ ((Pf ≠ 0) ∧ ((0 ≤ ((z93 - Mf) + z103) ∧ ((z93 - Mf) + z103) < ((((2 : Int) * Mf) - (1 : Int)).toNat : Nat)) ∧ ((I64 (z103 + (1 : Int))) ∧ (I104 (si x102 ((z93 - Mf) + z103) (((gi x102 ((z93 - Mf) + z103)) + ((Pf - (gi x102 z93)) * (gi mf z103))).tmod Pf)) (z103 + (1 : Int)) ∧ μ105 (si x102 ((z93 - Mf) + z103) (((gi x102 ((z93 - Mf) + z103)) + ((Pf - (gi x102 z93)) * (gi mf z103))).tmod Pf)) (z103 + (1 : Int)) < μ105 x102 z103))))))))))))))) ∧ (¬ (z103 < Mf) → ((I64 (z93 - (1 : Int))) ∧ (I94 x102 (z93 - (1 : Int)) ∧ μ95 x102 (z93 - (1 : Int)) < μ95 x92 z93))))))) ∧ (¬ (Mf ≤ z93) → ((0 ≤ Mf ∧ Mf ≤ ((((2 : Int) * Mf) - (1 : Int)).toNat : Nat)) ∧ (∃ (r165 : Int), V_rValue Pf Mf mf (x92.take Mf.toNat) (fun q => q = r165) ∧ Q r165))))))))))))))))
theorem ok_rMul {w : World} {Q : Int → Prop} {Pf : Int} {Mf : Int} {mf : List Int} {x : Int} {y : Int} {Bf : Nat} {Af : Option Addr} {nf kf : Nat} (hf : Rd Bf w 1 Af nf kf (is mf)) (hv : V_rMul Pf Mf mf x y Q) :
    Calls Try.prog 90 #[.agg #[.int .i64 Pf, .int .i64 Mf, .slice Af nf kf], .int .i64 x, .int .i64 y] w fun e w' => ∃ v Qr, e = .returned v ∧ w.grownBy w' none ∧ Rows w.heap.size none w' Qr ∧ News w.heap.size Qr ∧ ∃ (r0 : Int), v = .int .i64 r0 ∧ Qr = [] ∧ Q r0 := by
  have hnf := hf.ilen
  subst hnf
  refine calls_swap <| calls_of_W (vs := [.agg #[.int .i64 Pf, .int .i64 Mf, .slice Af mf.length kf], .int .i64 x, .int .i64 y]) [6] XF90 rfl rfl rfl rfl ?_
  have hS := St.start w
  unfold V_rMul at hv
  refine W.seq <| W.region <| SL.box (z := 3) (cs := [.int .i64 Pf, .int .i64 Mf, .slice Af mf.length kf]) hS rfl rfl rfl rfl ?_
  intro g11 w12 hS
  refine WL.assign rfl rfl <| WL.done <| W.seq <| W.region <| WL.loadV (cs := [.int .i64 Pf, .int .i64 Mf, .slice Af mf.length kf]) XE24 XG24 rfl rfl (Own.vcells (hS.own (i := 0) rfl)) rfl <| WL.move rfl rfl <| SL.call hS (ok_rDigits (hS.ro hf) hv) XF63 rfl XN63 rfl rfl ?_
  rintro _ _ w13 ⟨x14, A15, k16, rfl, rfl, hv⟩ hGw13 hS
  have hS := hS.n1
  refine WL.assign rfl rfl <| WL.done <| W.seq <| W.region <| WL.loadV (cs := [.int .i64 Pf, .int .i64 Mf, .slice Af mf.length kf]) XE24 XG24 rfl rfl (Own.vcells (hS.own (i := 1) rfl)) rfl <| WL.move rfl rfl <| SL.call hS (ok_rDigits (hS.ro hf) hv) XF63 rfl XN63 rfl rfl ?_
  rintro _ _ w18 ⟨x19, A20, k21, rfl, rfl, hv⟩ hGw18 hS
  have hS := hS.n1
  refine WL.assign rfl rfl <| WL.done <| W.seq <| W.region <| WL.fieldA (off := 1) XA24_1 rfl rfl <| WL.load XU3 rfl rfl (Own.vcells (hS.own (i := 2) rfl) 1 _ rfl) rfl ?_
  obtain ⟨o23, hv⟩ := hv
  refine WL.mul (r := ((2 : Int) * Mf)) rfl rfl (wr o23) rfl ?_
  obtain ⟨o24, hv⟩ := hv
  refine WL.sub (r := (((2 : Int) * Mf) - (1 : Int))) rfl rfl (wr o24) rfl ?_
  obtain ⟨o25, hv⟩ := hv
  refine SL.make (J := (((2 : Int) * Mf) - (1 : Int))) hS XU22 XE3 rfl rfl o25 (made_is _) rfl ?_
  intro A26 w27 hS
  refine WL.assign rfl rfl <| WL.done <| W.seq <| W.seq <| W.region <| WL.assign rfl rfl <| WL.done <| W.block ?_
  obtain ⟨I35, μ36, hv, hk171⟩ := hv
  refine W.loop (σ := List Int × Int) (fun q w1 => match q with | (x33, z34) => I35 x33 z34 ∧ St TT w none w1 [.row 3 1 A26 ((((2 : Int) * Mf) - (1 : Int)).toNat) ((((2 : Int) * Mf) - (1 : Int)).toNat) (is x33), .row 3 1 A20 x19.length k21 (is x19), .row 3 1 A15 x14.length k16 (is x14), .row 24 3 (some ⟨g11, 0, none⟩) 1 1 [.int .i64 Pf, .int .i64 Mf, .slice Af mf.length kf]]) (fun q => match q with | (x33, z34) => [(3, .pointer (some ⟨g11, 0, none⟩)), (6, .int .i64 (0 : Int)), (7, .slice A15 x14.length k16), (8, .slice A20 x19.length k21), (9, .slice A26 ((((2 : Int) * Mf) - (1 : Int)).toNat) ((((2 : Int) * Mf) - (1 : Int)).toNat)), (10, .int .i64 z34)]) (fun q => match q with | (x33, z34) => μ36 x33 z34) (List.replicate (((2 : Int) * Mf) - (1 : Int)).toNat (0 : Int), (0 : Int)) ⟨hv, hS⟩ ⟨rfl, rfl, rfl, rfl, rfl, rfl, trivial⟩ ?_
  rintro ⟨x33, z34⟩ w37 ⟨hv, hS⟩
  have hv := hk171 x33 z34 hv
  refine W.seq <| W.seq <| W.region <| WL.move rfl rfl <| WL.fieldA (off := 1) XA24_1 rfl rfl <| WL.load XU3 rfl rfl (Own.vcells (hS.own (i := 3) rfl) 1 _ rfl) rfl <| WL.lssD rfl rfl rfl <| WL.done <| W.cond2 rfl (fun c38 => ?_) (fun c38 => ?_)
  ·have hv := hv.1 (of_decide_eq_true c38)
   refine W.skip <| W.seq <| W.block <| W.seq <| W.region <| WL.assign rfl rfl <| WL.done <| W.block ?_
   obtain ⟨I45, μ46, hv, hk85⟩ := hv
   refine W.loop (σ := List Int × Int) (fun q w1 => match q with | (x43, z44) => I45 x43 z44 ∧ St TT w none w1 [.row 3 1 A26 ((((2 : Int) * Mf) - (1 : Int)).toNat) ((((2 : Int) * Mf) - (1 : Int)).toNat) (is x43), .row 3 1 A20 x19.length k21 (is x19), .row 3 1 A15 x14.length k16 (is x14), .row 24 3 (some ⟨g11, 0, none⟩) 1 1 [.int .i64 Pf, .int .i64 Mf, .slice Af mf.length kf]]) (fun q => match q with | (x43, z44) => [(3, .pointer (some ⟨g11, 0, none⟩)), (6, .int .i64 (0 : Int)), (7, .slice A15 x14.length k16), (8, .slice A20 x19.length k21), (9, .slice A26 ((((2 : Int) * Mf) - (1 : Int)).toNat) ((((2 : Int) * Mf) - (1 : Int)).toNat)), (10, .int .i64 z34), (11, .int .i64 z44), (28, .bool (decide (z34 < Mf)))]) (fun q => match q with | (x43, z44) => μ46 x43 z44) (x33, (0 : Int)) ⟨hv, hS⟩ ⟨rfl, rfl, rfl, rfl, rfl, rfl, rfl, rfl, trivial⟩ ?_
   rintro ⟨x43, z44⟩ w47 ⟨hv, hS⟩
   have hv := hk85 x43 z44 hv
   refine W.seq <| W.seq <| W.region <| WL.move rfl rfl <| WL.fieldA (off := 1) XA24_1 rfl rfl <| WL.load XU3 rfl rfl (Own.vcells (hS.own (i := 3) rfl) 1 _ rfl) rfl <| WL.lssD rfl rfl rfl <| WL.done <| W.cond2 rfl (fun c48 => ?_) (fun c48 => ?_)
   ·have hv := hv.1 (of_decide_eq_true c48)
    refine W.skip <| W.seq <| W.block ?_
    obtain ⟨o53, hv⟩ := hv
    obtain ⟨o58, hv⟩ := hv
    obtain ⟨o60, hv⟩ := hv
    obtain ⟨o65, hv⟩ := hv
    obtain ⟨o70, hv⟩ := hv
    obtain ⟨o73, hv⟩ := hv
    obtain ⟨o75, hv⟩ := hv
    obtain ⟨o79, hv⟩ := hv
    refine W.drawV 23 [⟨[], [9], true⟩, ⟨[], [10], true⟩, ⟨[], [11], true⟩, ⟨[1, 2], [], true⟩, ⟨[], [9], true⟩, ⟨[], [10], true⟩, ⟨[], [11], true⟩, ⟨[5, 6], [], true⟩, ⟨[4, 7], [], true⟩, ⟨[8], [], false⟩, ⟨[], [7], true⟩, ⟨[], [10], true⟩, ⟨[10, 11], [], true⟩, ⟨[12], [], false⟩, ⟨[], [8], true⟩, ⟨[], [11], true⟩, ⟨[14, 15], [], true⟩, ⟨[16], [], false⟩, ⟨[13, 17], [], true⟩, ⟨[9, 18], [], true⟩, ⟨[], [3], true⟩, ⟨[20], [], false⟩, ⟨[19, 21], [], true⟩] [[(9, .slice A26 ((((2 : Int) * Mf) - (1 : Int)).toNat) ((((2 : Int) * Mf) - (1 : Int)).toNat))], [(10, .int .i64 z34)], [(11, .int .i64 z44)], [], [(9, .slice A26 ((((2 : Int) * Mf) - (1 : Int)).toNat) ((((2 : Int) * Mf) - (1 : Int)).toNat))], [(10, .int .i64 z34)], [(11, .int .i64 z44)], [], [], [], [(7, .slice A15 x14.length k16)], [(10, .int .i64 z34)], [], [], [(8, .slice A20 x19.length k21)], [(11, .int .i64 z44)], [], [], [], [], [(3, .pointer (some ⟨g11, 0, none⟩))], [], []] [(37, .slice A26 ((((2 : Int) * Mf) - (1 : Int)).toNat) ((((2 : Int) * Mf) - (1 : Int)).toNat)), (38, .int .i64 z34), (39, .int .i64 z44), (40, .int .i64 (z34 + z44)), (41, .slice A26 ((((2 : Int) * Mf) - (1 : Int)).toNat) ((((2 : Int) * Mf) - (1 : Int)).toNat)), (42, .int .i64 z34), (43, .int .i64 z44), (44, .int .i64 (z34 + z44)), (45, .pointer (some ((adOf A26).add ((z34 + z44).toNat)))), (46, .int .i64 (gi x43 (z34 + z44))), (47, .slice A15 x14.length k16), (48, .int .i64 z34), (49, .pointer (some ((adOf A15).add z34.toNat))), (50, .int .i64 (gi x14 z34)), (51, .slice A20 x19.length k21), (52, .int .i64 z44), (53, .pointer (some ((adOf A20).add z44.toNat))), (54, .int .i64 (gi x19 z44)), (55, .int .i64 ((gi x14 z34) * (gi x19 z44))), (56, .int .i64 ((gi x43 (z34 + z44)) + ((gi x14 z34) * (gi x19 z44)))), (57, .pointer (some ⟨g11, 0, none⟩)), (58, .int .i64 Pf), (59, .int .i64 (((gi x43 (z34 + z44)) + ((gi x14 z34) * (gi x19 z44))).tmod Pf))] Try.mixed (by kernel_rfl) rfl rfl ?_ ?_
    · refine ⟨⟨rfl, ⟨rfl, trivial⟩, fun _ _ _ => WL.move rfl rfl <| WL.done ⟨rfl, rfl⟩⟩, ⟨rfl, ⟨rfl, trivial⟩, fun _ _ _ => WL.move rfl rfl <| WL.done ⟨rfl, rfl⟩⟩, ⟨rfl, ⟨rfl, trivial⟩, fun _ _ _ => WL.move rfl rfl <| WL.done ⟨rfl, rfl⟩⟩, ⟨rfl, trivial, fun _ _ _ => WL.add (r := (z34 + z44)) rfl rfl (wr o53) rfl <| WL.done ⟨rfl, rfl⟩⟩, ⟨rfl, ⟨rfl, trivial⟩, fun _ _ _ => WL.move rfl rfl <| WL.done ⟨rfl, rfl⟩⟩, ⟨rfl, ⟨rfl, trivial⟩, fun _ _ _ => WL.move rfl rfl <| WL.done ⟨rfl, rfl⟩⟩, ⟨rfl, ⟨rfl, trivial⟩, fun _ _ _ => WL.move rfl rfl <| WL.done ⟨rfl, rfl⟩⟩, ⟨rfl, trivial, fun _ _ _ => WL.add (r := (z34 + z44)) rfl rfl (wr o58) rfl <| WL.done ⟨rfl, rfl⟩⟩, ⟨rfl, trivial, fun _ _ _ => SL.index XU22 XE3 (hS.rd (i := 0) rfl) rfl rfl o60 rfl <| WL.done ⟨rfl, rfl⟩⟩, ⟨rfl, trivial, fun _ hE _ => have hS := hS.grow (hE rfl); WL.load XU3 rfl rfl (Rd.gi (hS.rd (i := 0) rfl) o60) rfl <| WL.done ⟨rfl, ext_refl _⟩⟩, ⟨rfl, ⟨rfl, trivial⟩, fun _ _ _ => WL.move rfl rfl <| WL.done ⟨rfl, rfl⟩⟩, ⟨rfl, ⟨rfl, trivial⟩, fun _ _ _ => WL.move rfl rfl <| WL.done ⟨rfl, rfl⟩⟩, ⟨rfl, trivial, fun _ _ _ => SL.index XU22 XE3 (hS.rd (i := 2) rfl) rfl rfl o65 rfl <| WL.done ⟨rfl, rfl⟩⟩, ⟨rfl, trivial, fun _ hE _ => have hS := hS.grow (hE rfl); WL.load XU3 rfl rfl (Rd.gi (hS.rd (i := 2) rfl) o65) rfl <| WL.done ⟨rfl, ext_refl _⟩⟩, ⟨rfl, ⟨rfl, trivial⟩, fun _ _ _ => WL.move rfl rfl <| WL.done ⟨rfl, rfl⟩⟩, ⟨rfl, ⟨rfl, trivial⟩, fun _ _ _ => WL.move rfl rfl <| WL.done ⟨rfl, rfl⟩⟩, ⟨rfl, trivial, fun _ _ _ => SL.index XU22 XE3 (hS.rd (i := 1) rfl) rfl rfl o70 rfl <| WL.done ⟨rfl, rfl⟩⟩, ⟨rfl, trivial, fun _ hE _ => have hS := hS.grow (hE rfl); WL.load XU3 rfl rfl (Rd.gi (hS.rd (i := 1) rfl) o70) rfl <| WL.done ⟨rfl, ext_refl _⟩⟩, ⟨rfl, trivial, fun _ _ _ => WL.mul (r := ((gi x14 z34) * (gi x19 z44))) rfl rfl (wr o73) rfl <| WL.done ⟨rfl, rfl⟩⟩, ⟨rfl, trivial, fun _ _ _ => WL.add (r := ((gi x43 (z34 + z44)) + ((gi x14 z34) * (gi x19 z44)))) rfl rfl (wr o75) rfl <| WL.done ⟨rfl, rfl⟩⟩, ⟨rfl, ⟨rfl, trivial⟩, fun _ _ _ => WL.fieldA (off := 0) XA24_0 rfl rfl <| WL.done ⟨rfl, rfl⟩⟩, ⟨rfl, trivial, fun _ hE _ => have hS := hS.grow (hE rfl); WL.load XU3 rfl rfl (Own.vcells (hS.own (i := 3) rfl) 0 _ rfl) rfl <| WL.done ⟨rfl, ext_refl _⟩⟩, ⟨rfl, trivial, fun _ _ _ => WL.rem (r := (((gi x43 (z34 + z44)) + ((gi x14 z34) * (gi x19 z44))).tmod Pf)) rfl rfl o79 rfl rfl <| WL.done ⟨rfl, rfl⟩⟩, trivial⟩
    intro w80 hT
    have hS := hS.grow hT
    refine WA.step1 23 (by decide +kernel) rfl ?_
    obtain ⟨o81, hv⟩ := hv
    refine SL.index XU22 XE3 (hS.rd (i := 0) rfl) rfl rfl o81 rfl <| WL.done <| WA.step1 24 (by decide +kernel) rfl <| SL.store (cs' := is (si x43 (z34 + z44) (((gi x43 (z34 + z44)) + ((gi x14 z34) * (gi x19 z44))).tmod Pf))) 0 (z34 + z44).toNat hS rfl XE3 rfl rfl rfl (is_lt (hS.rd (i := 0) rfl) o81) (is_set _ _ _) ?_
    intro w82 hS
    refine WL.done <| WA.done (by decide +kernel) <| W.region <| WL.move rfl rfl ?_
    obtain ⟨o83, hv⟩ := hv
    refine WL.add (r := (z44 + (1 : Int))) rfl rfl (wr o83) rfl <| WL.assign rfl rfl <| WL.done ?_
    exact ⟨(si x43 (z34 + z44) (((gi x43 (z34 + z44)) + ((gi x14 z34) * (gi x19 z44))).tmod Pf), (z44 + (1 : Int))), ⟨rfl, rfl, rfl, rfl, rfl, rfl, rfl, rfl, trivial⟩, hv.2, rfl, hv.1, hS⟩
   have hv := hv.2 (of_decide_eq_false c48)
   refine W.exit <| W.region <| WL.move rfl rfl ?_
   obtain ⟨o84, hv⟩ := hv
   refine WL.add (r := (z34 + (1 : Int))) rfl rfl (wr o84) rfl <| WL.assign rfl rfl <| WL.done ?_
   exact ⟨(x43, (z34 + (1 : Int))), ⟨rfl, rfl, rfl, rfl, rfl, rfl, trivial⟩, hv.2, rfl, hv.1, hS⟩
  have hv := hv.2 (of_decide_eq_false c38)
  refine W.exit <| W.seq <| W.seq <| W.region <| WL.fieldA (off := 1) XA24_1 rfl rfl <| WL.load XU3 rfl rfl (Own.vcells (hS.own (i := 3) rfl) 1 _ rfl) rfl ?_
  obtain ⟨o86, hv⟩ := hv
  refine WL.mul (r := ((2 : Int) * Mf)) rfl rfl (wr o86) rfl ?_
  obtain ⟨o87, hv⟩ := hv
  refine WL.sub (r := (((2 : Int) * Mf) - (2 : Int))) rfl rfl (wr o87) rfl <| WL.assign rfl rfl <| WL.done <| W.block ?_
  obtain ⟨I94, μ95, hv, hk170⟩ := hv
  refine W.loop (σ := List Int × Int) (fun q w1 => match q with | (x92, z93) => I94 x92 z93 ∧ St TT w none w1 [.row 3 1 A26 ((((2 : Int) * Mf) - (1 : Int)).toNat) ((((2 : Int) * Mf) - (1 : Int)).toNat) (is x92), .row 3 1 A20 x19.length k21 (is x19), .row 3 1 A15 x14.length k16 (is x14), .row 24 3 (some ⟨g11, 0, none⟩) 1 1 [.int .i64 Pf, .int .i64 Mf, .slice Af mf.length kf]]) (fun q => match q with | (x92, z93) => [(3, .pointer (some ⟨g11, 0, none⟩)), (6, .int .i64 (0 : Int)), (9, .slice A26 ((((2 : Int) * Mf) - (1 : Int)).toNat) ((((2 : Int) * Mf) - (1 : Int)).toNat)), (12, .int .i64 z93)]) (fun q => match q with | (x92, z93) => μ95 x92 z93) (x33, (((2 : Int) * Mf) - (2 : Int))) ⟨hv, hS⟩ ⟨rfl, rfl, rfl, rfl, trivial⟩ ?_
  rintro ⟨x92, z93⟩ w96 ⟨hv, hS⟩
  have hv := hk170 x92 z93 hv
  refine W.seq <| W.seq <| W.region <| WL.move rfl rfl <| WL.fieldA (off := 1) XA24_1 rfl rfl <| WL.load XU3 rfl rfl (Own.vcells (hS.own (i := 3) rfl) 1 _ rfl) rfl <| WL.geqD rfl rfl rfl <| WL.done <| W.cond2 rfl (fun c97 => ?_) (fun c97 => ?_)
  ·have hv := hv.1 (of_decide_eq_true c97)
   refine W.skip <| W.seq <| W.block <| W.seq <| W.region <| WL.assign rfl rfl <| WL.done <| W.block ?_
   obtain ⟨I104, μ105, hv, hk157⟩ := hv
   refine W.loop (σ := List Int × Int) (fun q w1 => match q with | (x102, z103) => I104 x102 z103 ∧ St TT w none w1 [.row 3 1 A26 ((((2 : Int) * Mf) - (1 : Int)).toNat) ((((2 : Int) * Mf) - (1 : Int)).toNat) (is x102), .row 3 1 A20 x19.length k21 (is x19), .row 3 1 A15 x14.length k16 (is x14), .row 24 3 (some ⟨g11, 0, none⟩) 1 1 [.int .i64 Pf, .int .i64 Mf, .slice Af mf.length kf]]) (fun q => match q with | (x102, z103) => [(3, .pointer (some ⟨g11, 0, none⟩)), (6, .int .i64 (0 : Int)), (9, .slice A26 ((((2 : Int) * Mf) - (1 : Int)).toNat) ((((2 : Int) * Mf) - (1 : Int)).toNat)), (12, .int .i64 z93), (13, .int .i64 z103), (68, .bool (decide (Mf ≤ z93)))]) (fun q => match q with | (x102, z103) => μ105 x102 z103) (x92, (0 : Int)) ⟨hv, hS⟩ ⟨rfl, rfl, rfl, rfl, rfl, rfl, trivial⟩ ?_
   rintro ⟨x102, z103⟩ w106 ⟨hv, hS⟩
   have hv := hk157 x102 z103 hv
   refine W.seq <| W.seq <| W.region <| WL.move rfl rfl <| WL.fieldA (off := 1) XA24_1 rfl rfl <| WL.load XU3 rfl rfl (Own.vcells (hS.own (i := 3) rfl) 1 _ rfl) rfl <| WL.lssD rfl rfl rfl <| WL.done <| W.cond2 rfl (fun c107 => ?_) (fun c107 => ?_)
   ·have hv := hv.1 (of_decide_eq_true c107)
    refine W.skip <| W.seq <| W.block ?_
    obtain ⟨o113, hv⟩ := hv
    obtain ⟨o116, hv⟩ := hv
    obtain ⟨o122, hv⟩ := hv
    obtain ⟨o125, hv⟩ := hv
    obtain ⟨o127, hv⟩ := hv
    obtain ⟨o134, hv⟩ := hv
    obtain ⟨o137, hv⟩ := hv
    obtain ⟨o142, hv⟩ := hv
    obtain ⟨o145, hv⟩ := hv
    obtain ⟨o147, hv⟩ := hv
    obtain ⟨o151, hv⟩ := hv
    refine W.drawV 33 [⟨[], [9], true⟩, ⟨[], [12], true⟩, ⟨[], [3], true⟩, ⟨[2], [], false⟩, ⟨[1, 3], [], true⟩, ⟨[], [13], true⟩, ⟨[4, 5], [], true⟩, ⟨[], [9], true⟩, ⟨[], [12], true⟩, ⟨[], [3], true⟩, ⟨[9], [], false⟩, ⟨[8, 10], [], true⟩, ⟨[], [13], true⟩, ⟨[11, 12], [], true⟩, ⟨[7, 13], [], true⟩, ⟨[14], [], false⟩, ⟨[], [3], true⟩, ⟨[16], [], false⟩, ⟨[], [9], true⟩, ⟨[], [12], true⟩, ⟨[18, 19], [], true⟩, ⟨[20], [], false⟩, ⟨[17, 21], [], true⟩, ⟨[], [3], true⟩, ⟨[23], [], false⟩, ⟨[], [13], true⟩, ⟨[24, 25], [], true⟩, ⟨[26], [], false⟩, ⟨[22, 27], [], true⟩, ⟨[15, 28], [], true⟩, ⟨[], [3], true⟩, ⟨[30], [], false⟩, ⟨[29, 31], [], true⟩] [[(9, .slice A26 ((((2 : Int) * Mf) - (1 : Int)).toNat) ((((2 : Int) * Mf) - (1 : Int)).toNat))], [(12, .int .i64 z93)], [(3, .pointer (some ⟨g11, 0, none⟩))], [], [], [(13, .int .i64 z103)], [], [(9, .slice A26 ((((2 : Int) * Mf) - (1 : Int)).toNat) ((((2 : Int) * Mf) - (1 : Int)).toNat))], [(12, .int .i64 z93)], [(3, .pointer (some ⟨g11, 0, none⟩))], [], [], [(13, .int .i64 z103)], [], [], [], [(3, .pointer (some ⟨g11, 0, none⟩))], [], [(9, .slice A26 ((((2 : Int) * Mf) - (1 : Int)).toNat) ((((2 : Int) * Mf) - (1 : Int)).toNat))], [(12, .int .i64 z93)], [], [], [], [(3, .pointer (some ⟨g11, 0, none⟩))], [], [(13, .int .i64 z103)], [], [], [], [], [(3, .pointer (some ⟨g11, 0, none⟩))], [], []] [(77, .slice A26 ((((2 : Int) * Mf) - (1 : Int)).toNat) ((((2 : Int) * Mf) - (1 : Int)).toNat)), (78, .int .i64 z93), (79, .pointer (some ((⟨g11, 0, none⟩ : Addr).add 1))), (80, .int .i64 Mf), (81, .int .i64 (z93 - Mf)), (82, .int .i64 z103), (83, .int .i64 ((z93 - Mf) + z103)), (84, .slice A26 ((((2 : Int) * Mf) - (1 : Int)).toNat) ((((2 : Int) * Mf) - (1 : Int)).toNat)), (85, .int .i64 z93), (86, .pointer (some ((⟨g11, 0, none⟩ : Addr).add 1))), (87, .int .i64 Mf), (88, .int .i64 (z93 - Mf)), (89, .int .i64 z103), (90, .int .i64 ((z93 - Mf) + z103)), (91, .pointer (some ((adOf A26).add (((z93 - Mf) + z103).toNat)))), (92, .int .i64 (gi x102 ((z93 - Mf) + z103))), (93, .pointer (some ⟨g11, 0, none⟩)), (94, .int .i64 Pf), (95, .slice A26 ((((2 : Int) * Mf) - (1 : Int)).toNat) ((((2 : Int) * Mf) - (1 : Int)).toNat)), (96, .int .i64 z93), (97, .pointer (some ((adOf A26).add z93.toNat))), (98, .int .i64 (gi x102 z93)), (99, .int .i64 (Pf - (gi x102 z93))), (100, .pointer (some ((⟨g11, 0, none⟩ : Addr).add 2))), (101, .slice Af mf.length kf), (102, .int .i64 z103), (103, .pointer (some ((adOf Af).add z103.toNat))), (104, .int .i64 (gi mf z103)), (105, .int .i64 ((Pf - (gi x102 z93)) * (gi mf z103))), (106, .int .i64 ((gi x102 ((z93 - Mf) + z103)) + ((Pf - (gi x102 z93)) * (gi mf z103)))), (107, .pointer (some ⟨g11, 0, none⟩)), (108, .int .i64 Pf), (109, .int .i64 (((gi x102 ((z93 - Mf) + z103)) + ((Pf - (gi x102 z93)) * (gi mf z103))).tmod Pf))] Try.mixed (by kernel_rfl) rfl rfl ?_ ?_
    · refine ⟨⟨rfl, ⟨rfl, trivial⟩, fun _ _ _ => WL.move rfl rfl <| WL.done ⟨rfl, rfl⟩⟩, ⟨rfl, ⟨rfl, trivial⟩, fun _ _ _ => WL.move rfl rfl <| WL.done ⟨rfl, rfl⟩⟩, ⟨rfl, ⟨rfl, trivial⟩, fun _ _ _ => WL.fieldA (off := 1) XA24_1 rfl rfl <| WL.done ⟨rfl, rfl⟩⟩, ⟨rfl, trivial, fun _ hE _ => have hS := hS.grow (hE rfl); WL.load XU3 rfl rfl (Own.vcells (hS.own (i := 3) rfl) 1 _ rfl) rfl <| WL.done ⟨rfl, ext_refl _⟩⟩, ⟨rfl, trivial, fun _ _ _ => WL.sub (r := (z93 - Mf)) rfl rfl (wr o113) rfl <| WL.done ⟨rfl, rfl⟩⟩, ⟨rfl, ⟨rfl, trivial⟩, fun _ _ _ => WL.move rfl rfl <| WL.done ⟨rfl, rfl⟩⟩, ⟨rfl, trivial, fun _ _ _ => WL.add (r := ((z93 - Mf) + z103)) rfl rfl (wr o116) rfl <| WL.done ⟨rfl, rfl⟩⟩, ⟨rfl, ⟨rfl, trivial⟩, fun _ _ _ => WL.move rfl rfl <| WL.done ⟨rfl, rfl⟩⟩, ⟨rfl, ⟨rfl, trivial⟩, fun _ _ _ => WL.move rfl rfl <| WL.done ⟨rfl, rfl⟩⟩, ⟨rfl, ⟨rfl, trivial⟩, fun _ _ _ => WL.fieldA (off := 1) XA24_1 rfl rfl <| WL.done ⟨rfl, rfl⟩⟩, ⟨rfl, trivial, fun _ hE _ => have hS := hS.grow (hE rfl); WL.load XU3 rfl rfl (Own.vcells (hS.own (i := 3) rfl) 1 _ rfl) rfl <| WL.done ⟨rfl, ext_refl _⟩⟩, ⟨rfl, trivial, fun _ _ _ => WL.sub (r := (z93 - Mf)) rfl rfl (wr o122) rfl <| WL.done ⟨rfl, rfl⟩⟩, ⟨rfl, ⟨rfl, trivial⟩, fun _ _ _ => WL.move rfl rfl <| WL.done ⟨rfl, rfl⟩⟩, ⟨rfl, trivial, fun _ _ _ => WL.add (r := ((z93 - Mf) + z103)) rfl rfl (wr o125) rfl <| WL.done ⟨rfl, rfl⟩⟩, ⟨rfl, trivial, fun _ _ _ => SL.index XU22 XE3 (hS.rd (i := 0) rfl) rfl rfl o127 rfl <| WL.done ⟨rfl, rfl⟩⟩, ⟨rfl, trivial, fun _ hE _ => have hS := hS.grow (hE rfl); WL.load XU3 rfl rfl (Rd.gi (hS.rd (i := 0) rfl) o127) rfl <| WL.done ⟨rfl, ext_refl _⟩⟩, ⟨rfl, ⟨rfl, trivial⟩, fun _ _ _ => WL.fieldA (off := 0) XA24_0 rfl rfl <| WL.done ⟨rfl, rfl⟩⟩, ⟨rfl, trivial, fun _ hE _ => have hS := hS.grow (hE rfl); WL.load XU3 rfl rfl (Own.vcells (hS.own (i := 3) rfl) 0 _ rfl) rfl <| WL.done ⟨rfl, ext_refl _⟩⟩, ⟨rfl, ⟨rfl, trivial⟩, fun _ _ _ => WL.move rfl rfl <| WL.done ⟨rfl, rfl⟩⟩, ⟨rfl, ⟨rfl, trivial⟩, fun _ _ _ => WL.move rfl rfl <| WL.done ⟨rfl, rfl⟩⟩, ⟨rfl, trivial, fun _ _ _ => SL.index XU22 XE3 (hS.rd (i := 0) rfl) rfl rfl o134 rfl <| WL.done ⟨rfl, rfl⟩⟩, ⟨rfl, trivial, fun _ hE _ => have hS := hS.grow (hE rfl); WL.load XU3 rfl rfl (Rd.gi (hS.rd (i := 0) rfl) o134) rfl <| WL.done ⟨rfl, ext_refl _⟩⟩, ⟨rfl, trivial, fun _ _ _ => WL.sub (r := (Pf - (gi x102 z93))) rfl rfl (wr o137) rfl <| WL.done ⟨rfl, rfl⟩⟩, ⟨rfl, ⟨rfl, trivial⟩, fun _ _ _ => WL.fieldA (off := 2) XA24_2 rfl rfl <| WL.done ⟨rfl, rfl⟩⟩, ⟨rfl, trivial, fun _ hE _ => have hS := hS.grow (hE rfl); WL.load XU22 rfl rfl (Own.vcells (hS.own (i := 3) rfl) 2 _ rfl) rfl <| WL.done ⟨rfl, ext_refl _⟩⟩, ⟨rfl, ⟨rfl, trivial⟩, fun _ _ _ => WL.move rfl rfl <| WL.done ⟨rfl, rfl⟩⟩, ⟨rfl, trivial, fun _ _ _ => SL.index XU22 XE3 (hS.ro hf) rfl rfl o142 rfl <| WL.done ⟨rfl, rfl⟩⟩, ⟨rfl, trivial, fun _ hE _ => have hS := hS.grow (hE rfl); WL.load XU3 rfl rfl (Rd.gi (hS.ro hf) o142) rfl <| WL.done ⟨rfl, ext_refl _⟩⟩, ⟨rfl, trivial, fun _ _ _ => WL.mul (r := ((Pf - (gi x102 z93)) * (gi mf z103))) rfl rfl (wr o145) rfl <| WL.done ⟨rfl, rfl⟩⟩, ⟨rfl, trivial, fun _ _ _ => WL.add (r := ((gi x102 ((z93 - Mf) + z103)) + ((Pf - (gi x102 z93)) * (gi mf z103)))) rfl rfl (wr o147) rfl <| WL.done ⟨rfl, rfl⟩⟩, ⟨rfl, ⟨rfl, trivial⟩, fun _ _ _ => WL.fieldA (off := 0) XA24_0 rfl rfl <| WL.done ⟨rfl, rfl⟩⟩, ⟨rfl, trivial, fun _ hE _ => have hS := hS.grow (hE rfl); WL.load XU3 rfl rfl (Own.vcells (hS.own (i := 3) rfl) 0 _ rfl) rfl <| WL.done ⟨rfl, ext_refl _⟩⟩, ⟨rfl, trivial, fun _ _ _ => WL.rem (r := (((gi x102 ((z93 - Mf) + z103)) + ((Pf - (gi x102 z93)) * (gi mf z103))).tmod Pf)) rfl rfl o151 rfl rfl <| WL.done ⟨rfl, rfl⟩⟩, trivial⟩
    intro w152 hT
    have hS := hS.grow hT
    refine WA.step1 33 (by decide +kernel) rfl ?_
    obtain ⟨o153, hv⟩ := hv
    refine SL.index XU22 XE3 (hS.rd (i := 0) rfl) rfl rfl o153 rfl <| WL.done <| WA.step1 34 (by decide +kernel) rfl <| SL.store (cs' := is (si x102 ((z93 - Mf) + z103) (((gi x102 ((z93 - Mf) + z103)) + ((Pf - (gi x102 z93)) * (gi mf z103))).tmod Pf))) 0 ((z93 - Mf) + z103).toNat hS rfl XE3 rfl rfl rfl (is_lt (hS.rd (i := 0) rfl) o153) (is_set _ _ _) ?_
    intro w154 hS
    refine WL.done <| WA.done (by decide +kernel) <| W.region <| WL.move rfl rfl ?_
    obtain ⟨o155, hv⟩ := hv
    refine WL.add (r := (z103 + (1 : Int))) rfl rfl (wr o155) rfl <| WL.assign rfl rfl <| WL.done ?_
    exact ⟨(si x102 ((z93 - Mf) + z103) (((gi x102 ((z93 - Mf) + z103)) + ((Pf - (gi x102 z93)) * (gi mf z103))).tmod Pf), (z103 + (1 : Int))), ⟨rfl, rfl, rfl, rfl, rfl, rfl, trivial⟩, hv.2, rfl, hv.1, hS⟩
   have hv := hv.2 (of_decide_eq_false c107)
   refine W.exit <| W.region <| WL.move rfl rfl ?_
   obtain ⟨o156, hv⟩ := hv
   refine WL.sub (r := (z93 - (1 : Int))) rfl rfl (wr o156) rfl <| WL.assign rfl rfl <| WL.done ?_
   exact ⟨(x102, (z93 - (1 : Int))), ⟨rfl, rfl, rfl, rfl, trivial⟩, hv.2, rfl, hv.1, hS⟩
  have hv := hv.2 (of_decide_eq_false c97)
  refine W.exit <| W.seq ?_
  obtain ⟨o163, hv⟩ := hv
  obtain ⟨r165, o167, hv⟩ := hv
  refine W.drawV 7 [⟨[], [3], false⟩, ⟨[], [9], true⟩, ⟨[], [3], true⟩, ⟨[2], [], false⟩, ⟨[1, 3], [], true⟩, ⟨[0, 4], [], false⟩, ⟨[5], [], true⟩] [[(3, .pointer (some ⟨g11, 0, none⟩))], [(9, .slice A26 ((((2 : Int) * Mf) - (1 : Int)).toNat) ((((2 : Int) * Mf) - (1 : Int)).toNat))], [(3, .pointer (some ⟨g11, 0, none⟩))], [], [], [], []] [(111, .agg #[.int .i64 Pf, .int .i64 Mf, .slice Af mf.length kf]), (112, .slice A26 ((((2 : Int) * Mf) - (1 : Int)).toNat) ((((2 : Int) * Mf) - (1 : Int)).toNat)), (113, .pointer (some ((⟨g11, 0, none⟩ : Addr).add 1))), (114, .int .i64 Mf), (115, .slice A26 ((x92.take Mf.toNat).length) ((((2 : Int) * Mf) - (1 : Int)).toNat)), (116, .int .i64 r165), (6, .int .i64 r165)] Try.mixed (by kernel_rfl) rfl rfl ?_ ?_
  · refine ⟨⟨rfl, ⟨rfl, trivial⟩, fun _ hE _ => have hS := hS.grow (hE rfl); WL.loadV (cs := [.int .i64 Pf, .int .i64 Mf, .slice Af mf.length kf]) XE24 XG24 rfl rfl (Own.vcells (hS.own (i := 3) rfl)) rfl <| WL.done ⟨rfl, ext_refl _⟩⟩, ⟨rfl, ⟨rfl, trivial⟩, fun _ _ _ => WL.move rfl rfl <| WL.done ⟨rfl, rfl⟩⟩, ⟨rfl, ⟨rfl, trivial⟩, fun _ _ _ => WL.fieldA (off := 1) XA24_1 rfl rfl <| WL.done ⟨rfl, rfl⟩⟩, ⟨rfl, trivial, fun _ hE _ => have hS := hS.grow (hE rfl); WL.load XU3 rfl rfl (Own.vcells (hS.own (i := 3) rfl) 1 _ rfl) rfl <| WL.done ⟨rfl, ext_refl _⟩⟩, ⟨rfl, trivial, fun _ _ _ => SL.slTo XU22 XE3 (hS.rd (i := 0) rfl) rfl rfl o163 rfl (x92.take Mf.toNat).length (pre_len (hS.rd (i := 0) rfl) o163) <| WL.done ⟨rfl, rfl⟩⟩, ⟨rfl, trivial, ?_⟩, ⟨rfl, trivial, fun _ _ _ => WL.assign rfl rfl <| WL.done ⟨rfl, rfl⟩⟩, trivial⟩
    intro w164 hE RR
    have hS := hS.grow (hE rfl)
    refine WL.call XF64 rfl XN64 rfl rfl (calls_un (ok_rValue (hS.ro hf) (Rd.pre (hS.rd (i := 0) rfl) o163) o167)) ?_
    rintro _ w166 ⟨_, hGw166, hRww166, hNww166, r165q, rfl, rfl, he⟩
    subst he
    exact WL.done ⟨rfl, hGw166⟩
  intro w169 hT
  have hS := hS.grow hT
  refine WA.done (by decide +kernel) <| W.ret <| ⟨_, rfl, Fin.nil ?_⟩
  exact ⟨_, hS.ext, (hS.pick [] rfl).rows, News.of (hS.pick [] rfl).rows rfl, ⟨r165, rfl, rfl, hv⟩⟩
def V_rDot (Pf : Int) (Mf : Int) (mf : List Int) (a : List Int) (b : List Int) (Q : Int → Prop) : Prop :=
  ∃ J14 : Int → Prop, (∃ (I21 : Int → Int → Prop) (μ22 : Int → Int → Nat), I21 (0 : Int) (0 : Int) ∧ ∀ (z19 : Int) (z20 : Int), (I21 z19 z20 → (((z20 < ((a.length : Nat) : Int)) → (((z20 < ((b.length : Nat) : Int)) → ((0 ≤ z20 ∧ z20 < (a.length : Nat)) ∧ ((0 ≤ z20 ∧ z20 < (b.length : Nat)) ∧ (∃ (r40 : Int), V_rMul Pf Mf mf (gi a z20) (gi b z20) (fun q => q = r40) ∧ (∃ (r44 : Int), V_rAdd Pf Mf mf z19 r40 (fun q => q = r44) ∧ ((I64 (z20 + (1 : Int))) ∧ (I21 r44 (z20 + (1 : Int)) ∧ μ22 r44 (z20 + (1 : Int)) < μ22 z19 z20))))))) ∧ (¬ (z20 < ((b.length : Nat) : Int)) → J14 z19))) ∧ (¬ (z20 < ((a.length : Nat) : Int)) → J14 z19)))) ∧ ∀ (z13 : Int), (J14 z13 → Q z13)
theorem ok_rDot {w : World} {Q : Int → Prop} {Pf : Int} {Mf : Int} {mf : List Int} {a : List Int} {b : List Int} {Bf : Nat} {Af : Option Addr} {nf kf : Nat} (hf : Rd Bf w 1 Af nf kf (is mf)) {Ba : Nat} {Aa : Option Addr} {na ka : Nat} (ha : Rd Ba w 1 Aa na ka (is a)) {Bb : Nat} {Ab : Option Addr} {nb kb : Nat} (hb : Rd Bb w 1 Ab nb kb (is b)) (hv : V_rDot Pf Mf mf a b Q) :
    Calls Try.prog 62 #[.agg #[.int .i64 Pf, .int .i64 Mf, .slice Af nf kf], .slice Aa na ka, .slice Ab nb kb] w fun e w' => ∃ v Qr, e = .returned v ∧ w.grownBy w' none ∧ Rows w.heap.size none w' Qr ∧ News w.heap.size Qr ∧ ∃ (r0 : Int), v = .int .i64 r0 ∧ Qr = [] ∧ Q r0 := by
  have hnf := hf.ilen
  subst hnf
  have hna := ha.ilen
  subst hna
  have hnb := hb.ilen
  subst hnb
  refine calls_swap <| calls_of_W (vs := [.agg #[.int .i64 Pf, .int .i64 Mf, .slice Af mf.length kf], .slice Aa a.length ka, .slice Ab b.length kb]) [6] XF62 rfl rfl rfl rfl ?_
  have hS := St.start w
  unfold V_rDot at hv
  refine W.seq <| W.region <| SL.box (z := 3) (cs := [.int .i64 Pf, .int .i64 Mf, .slice Af mf.length kf]) hS rfl rfl rfl rfl ?_
  intro g11 w12 hS
  refine WL.assign rfl rfl <| WL.done <| W.seq <| W.region <| WL.assign rfl rfl <| WL.done <| W.seq <| W.seq <| W.region <| WL.assign rfl rfl <| WL.done ?_
  obtain ⟨J14, hv, hk52⟩ := hv
  refine W.cutN (σ := Int) (fun z13 w1 => J14 z13 ∧ St TT w none w1 [.row 24 3 (some ⟨g11, 0, none⟩) 1 1 [.int .i64 Pf, .int .i64 Mf, .slice Af mf.length kf]]) (fun z13 => [(6, .int .i64 (0 : Int)), (7, .int .i64 z13)]) ?_ ?_
  ·refine W.block ?_
   obtain ⟨I21, μ22, hv, hk50⟩ := hv
   refine W.loop (σ := Int × Int) (fun q w1 => match q with | (z19, z20) => I21 z19 z20 ∧ St TT w none w1 [.row 24 3 (some ⟨g11, 0, none⟩) 1 1 [.int .i64 Pf, .int .i64 Mf, .slice Af mf.length kf]]) (fun q => match q with | (z19, z20) => [(1, .slice Aa a.length ka), (2, .slice Ab b.length kb), (3, .pointer (some ⟨g11, 0, none⟩)), (6, .int .i64 (0 : Int)), (7, .int .i64 z19), (8, .int .i64 z20)]) (fun q => match q with | (z19, z20) => μ22 z19 z20) ((0 : Int), (0 : Int)) ⟨hv, hS⟩ ⟨rfl, rfl, rfl, rfl, rfl, rfl, trivial⟩ ?_
   rintro ⟨z19, z20⟩ w23 ⟨hv, hS⟩
   have hv := hk50 z19 z20 hv
   refine W.seq <| W.seq <| W.region <| WL.move rfl rfl <| WL.move rfl rfl <| WL.len XU22 rfl rfl <| WL.lssD rfl rfl rfl <| WL.move rfl rfl ?_
   by_cases g24 : z20 < ((a.length : Nat) : Int)
   ·have hv := hv.1 g24
    rw [decide_eq_true g24]
    refine WL.take rfl <| WL.move rfl rfl <| WL.take rfl <| WL.move rfl rfl <| WL.take rfl <| WL.len XU22 rfl rfl <| WL.take rfl <| WL.lssD rfl rfl rfl <| WL.pick rfl rfl rfl <| WL.done <| W.cond2 rfl (fun c25 => ?_) (fun c25 => ?_)
    ·have hv := hv.1 (of_decide_eq_true c25)
     refine W.skip <| W.seq <| W.block ?_
     obtain ⟨o32, hv⟩ := hv
     obtain ⟨o37, hv⟩ := hv
     obtain ⟨r40, o42, hv⟩ := hv
     obtain ⟨r44, o46, hv⟩ := hv
     refine W.drawV 14 [⟨[], [3], false⟩, ⟨[], [7], true⟩, ⟨[], [3], false⟩, ⟨[], [1], true⟩, ⟨[], [8], true⟩, ⟨[3, 4], [], true⟩, ⟨[5], [], false⟩, ⟨[], [2], true⟩, ⟨[], [8], true⟩, ⟨[7, 8], [], true⟩, ⟨[9], [], false⟩, ⟨[2, 6, 10], [], false⟩, ⟨[0, 1, 11], [], false⟩, ⟨[12], [], true⟩] [[(3, .pointer (some ⟨g11, 0, none⟩))], [(7, .int .i64 z19)], [(3, .pointer (some ⟨g11, 0, none⟩))], [(1, .slice Aa a.length ka)], [(8, .int .i64 z20)], [], [], [(2, .slice Ab b.length kb)], [(8, .int .i64 z20)], [], [], [], [], []] [(21, .agg #[.int .i64 Pf, .int .i64 Mf, .slice Af mf.length kf]), (22, .int .i64 z19), (23, .agg #[.int .i64 Pf, .int .i64 Mf, .slice Af mf.length kf]), (24, .slice Aa a.length ka), (25, .int .i64 z20), (26, .pointer (some ((adOf Aa).add z20.toNat))), (27, .int .i64 (gi a z20)), (28, .slice Ab b.length kb), (29, .int .i64 z20), (30, .pointer (some ((adOf Ab).add z20.toNat))), (31, .int .i64 (gi b z20)), (32, .int .i64 r40), (33, .int .i64 r44), (7, .int .i64 r44)] Try.mixed (by kernel_rfl) rfl rfl ?_ ?_
     · refine ⟨⟨rfl, ⟨rfl, trivial⟩, fun _ hE _ => have hS := hS.grow (hE rfl); WL.loadV (cs := [.int .i64 Pf, .int .i64 Mf, .slice Af mf.length kf]) XE24 XG24 rfl rfl (Own.vcells (hS.own (i := 0) rfl)) rfl <| WL.done ⟨rfl, ext_refl _⟩⟩, ⟨rfl, ⟨rfl, trivial⟩, fun _ _ _ => WL.move rfl rfl <| WL.done ⟨rfl, rfl⟩⟩, ⟨rfl, ⟨rfl, trivial⟩, fun _ hE _ => have hS := hS.grow (hE rfl); WL.loadV (cs := [.int .i64 Pf, .int .i64 Mf, .slice Af mf.length kf]) XE24 XG24 rfl rfl (Own.vcells (hS.own (i := 0) rfl)) rfl <| WL.done ⟨rfl, ext_refl _⟩⟩, ⟨rfl, ⟨rfl, trivial⟩, fun _ _ _ => WL.move rfl rfl <| WL.done ⟨rfl, rfl⟩⟩, ⟨rfl, ⟨rfl, trivial⟩, fun _ _ _ => WL.move rfl rfl <| WL.done ⟨rfl, rfl⟩⟩, ⟨rfl, trivial, fun _ _ _ => SL.index XU22 XE3 (hS.ro ha) rfl rfl o32 rfl <| WL.done ⟨rfl, rfl⟩⟩, ⟨rfl, trivial, fun _ hE _ => have hS := hS.grow (hE rfl); WL.load XU3 rfl rfl (Rd.gi (hS.ro ha) o32) rfl <| WL.done ⟨rfl, ext_refl _⟩⟩, ⟨rfl, ⟨rfl, trivial⟩, fun _ _ _ => WL.move rfl rfl <| WL.done ⟨rfl, rfl⟩⟩, ⟨rfl, ⟨rfl, trivial⟩, fun _ _ _ => WL.move rfl rfl <| WL.done ⟨rfl, rfl⟩⟩, ⟨rfl, trivial, fun _ _ _ => SL.index XU22 XE3 (hS.ro hb) rfl rfl o37 rfl <| WL.done ⟨rfl, rfl⟩⟩, ⟨rfl, trivial, fun _ hE _ => have hS := hS.grow (hE rfl); WL.load XU3 rfl rfl (Rd.gi (hS.ro hb) o37) rfl <| WL.done ⟨rfl, ext_refl _⟩⟩, ⟨rfl, trivial, ?_⟩, ⟨rfl, trivial, ?_⟩, ⟨rfl, trivial, fun _ _ _ => WL.assign rfl rfl <| WL.done ⟨rfl, rfl⟩⟩, trivial⟩
       · intro w39 hE RR
         have hS := hS.grow (hE rfl)
         refine WL.call XF90 rfl XN90 rfl rfl (calls_un (ok_rMul (hS.ro hf) o42)) ?_
         rintro _ w41 ⟨_, hGw41, hRww41, hNww41, r40q, rfl, rfl, he⟩
         subst he
         exact WL.done ⟨rfl, hGw41⟩
       intro w43 hE RR
       have hS := hS.grow (hE rfl)
       refine WL.call XF32 rfl XN32 rfl rfl (calls_un (ok_rAdd (hS.ro hf) o46)) ?_
       rintro _ w45 ⟨_, hGw45, hRww45, hNww45, r44q, rfl, rfl, he⟩
       subst he
       exact WL.done ⟨rfl, hGw45⟩
     intro w48 hT
     have hS := hS.grow hT
     refine WA.done (by decide +kernel) <| W.region <| WL.move rfl rfl ?_
     obtain ⟨o49, hv⟩ := hv
     refine WL.add (r := (z20 + (1 : Int))) rfl rfl (wr o49) rfl <| WL.assign rfl rfl <| WL.done ?_
     exact ⟨(r44, (z20 + (1 : Int))), ⟨rfl, rfl, rfl, rfl, rfl, rfl, trivial⟩, hv.2, rfl, hv.1, hS⟩
    have hv := hv.2 (of_decide_eq_false c25)
    refine W.exit ?_
    exact ⟨z19, ⟨rfl, rfl, trivial⟩, rfl, hv, hS⟩
   have hv := hv.2 g24
   rw [decide_eq_false g24]
   refine WL.pass rfl rfl rfl <| WL.pass rfl rfl rfl <| WL.pass rfl rfl rfl <| WL.pass rfl rfl rfl <| WL.pick rfl rfl rfl <| WL.done <| W.condF rfl <| W.exit ?_
   exact ⟨z19, ⟨rfl, rfl, trivial⟩, rfl, hv, hS⟩
  rintro z13 w51 ⟨hv, hS⟩
  have hv := hk52 z13 hv
  refine W.seq <| W.region <| WL.move rfl rfl <| WL.assign rfl rfl <| WL.done <| W.ret <| ⟨_, rfl, Fin.nil ?_⟩
  exact ⟨_, hS.ext, (hS.pick [] rfl).rows, News.of (hS.pick [] rfl).rows rfl, ⟨z13, rfl, rfl, hv⟩⟩
end Go.Proofs.Ytcmfjjbbcfddpaa
set_option linter.unusedVariables false
set_option linter.unusedSimpArgs false
namespace Go.Proofs.Ytcmfjjbbcfddpaa
section
variable {P M : Int} {mf : List Int} {p m v : Nat}
end
/-! the product by convolution -/
theorem opr_upd {p m : Nat} {c w w' u : Vec} {s : Int} {k : Nat} (hk : w' k % (p : Int) = (w k + s) % (p : Int)) (ho : ∀ i, i ≠ k → w' i = w i) : ∀ n, vcg p (opr m c w' n u) (vadd (opr m c w n u) (if k < n then vsm s (tXn m c k u) else vz))
  | 0 => fun i => by simp [opr, vadd, vz]
  | n + 1 => fun i => by
    have ih := opr_upd hk ho (m := m) (c := c) (u := u) n i
    show (opr m c w' n u i + w' n * tXn m c n u i) % (p : Int) = ((opr m c w n u i + w n * tXn m c n u i) + (if k < n + 1 then vsm s (tXn m c k u) else vz) i) % (p : Int)
    rcases Nat.lt_trichotomy k n with h | h | h
    · rw [if_pos (by omega)]
      rw [if_pos h] at ih
      rw [ho n (by omega)]
      have := add_cg ih (rfl : (w n * tXn m c n u i) % (p : Int) = _)
      rw [this]
      congr 1
      show opr m c w n u i + (vsm s (tXn m c k u)) i + _ = _
      omega
    · subst h
      rw [if_pos (by omega)]
      rw [if_neg (by omega)] at ih
      have := add_cg ih (mul_cg hk (rfl : (tXn m c k u i) % (p : Int) = _))
      rw [this]
      congr 1
      show opr m c w k u i + 0 + (w k + s) * tXn m c k u i = _ + s * tXn m c k u i
      rw [Int.add_mul]; omega
    · rw [if_neg (by omega)]
      rw [if_neg (by omega)] at ih
      rw [ho n (by omega)]
      have := add_cg ih (rfl : (w n * tXn m c n u i) % (p : Int) = _)
      rw [this]
      congr 1
      show opr m c w n u i + 0 + _ = _ + 0
      omega
theorem Xm {m : Nat} {c : Vec} (hm : 0 < m) : tXn m c m e0 = vsm (-1) (opr m c c m e0) := by
  obtain ⟨n, rfl⟩ : ∃ n, m = n + 1 := ⟨m - 1, by omega⟩
  show tX (n + 1) c (tXn (n + 1) c n e0) = _
  rw [tXn_e0 (by omega)]
  funext i
  simp only [vsm]
  rw [opr_e0 (Nat.le_refl _)]
  simp only [tX, vei]
  by_cases hi : i < n + 1
  · rw [if_pos hi, if_pos hi]
    have e1 : (if i = 0 then (0 : Int) else if i - 1 = n then 1 else 0) = 0 := by
      split
      · rfl
      · rw [if_neg (by omega)]
    rw [e1, show n + 1 - 1 = n by omega, if_pos rfl]; omega
  · rw [if_neg hi, if_neg hi]; rfl
section
variable {P M : Int} {mf : List Int} {p m v : Nat}
theorem v_rMul (F : FV P M mf p m v) {x y : Int} {Q : Int → Prop} (h : Q ((fmul p m (dv p v) (inE (p ^ m) x) (inE (p ^ m) y) : Nat) : Int)) : V_rMul P M mf x y Q := by
  have hp := F.p2
  have hp2 := F.p256
  have hm0 := F.m0
  have hm8 := F.m8
  have hx := inE_lt F.ring.pos x
  have hy := inE_lt F.ring.pos y
  refine v_rDigits F (v_rDigits F ?_)
  obtain rfl := F.eP
  obtain rfl := F.eM
  generalize inE (p ^ m) x = a at *
  generalize inE (p ^ m) y = b at *
  rw [fmul_comm hx hy] at h
  have hla := dgi_len p m a
  have hlb := dgi_len p m b
  have hva := dgi_vo hx
  have hvb := dgi_vo hy
  have hsa := dv_sup hx
  have hsb := dv_sup hy
  have hN : (2 * (m : Int) - 1).toNat = 2 * m - 1 := by omega
  have e2 : (2 * (m : Int) - 1) = ((2 * m - 1 : Nat) : Int) := by omega
  rw [e2]
  generalize hNN : 2 * m - 1 = N at *
  rw [Int.toNat_natCast]
  have hself := opr_self (c := dv p v) hsb
  refine ⟨small (by omega) (by omega), smallN (by omega), ⟨by omega, by omega, by omega⟩, ?_⟩
  refine ⟨fun l z => ∃ k : Nat, z = k ∧ k ≤ m ∧ l.length = N ∧ Cn p N (vo l) ∧ vcg p (opr m (dv p v) (vo l) N e0) (opr m (dv p v) (dv p a) k (dv p b)), fun l z => (m - z).toNat, ⟨0, rfl, Nat.zero_le _, by simp, fun i hi => by rw [vo_rep]; omega, ?_⟩, ?_⟩
  · have : vo (List.replicate N (0 : Int)) = vz := by funext i; rw [vo_rep]; rfl
    rw [this]
    have h0 : ∀ n, opr m (dv p v) vz n e0 = vz := fun n => by
      induction n with
      | zero => rfl
      | succ n ih => show vadd (opr m (dv p v) vz n e0) (vsm (vz n) _) = vz; rw [ih]; funext i; simp [vadd, vsm, vz]
    rw [h0]; exact vcg.refl _
  rintro l _ ⟨i, rfl, hi, hl, hcn, hE⟩
  dsimp only
  refine ⟨fun hlt => ?_, fun hge => ?_⟩
  · refine ⟨fun r z => ∃ j : Nat, z = j ∧ j ≤ m ∧ r.length = N ∧ Cn p N (vo r) ∧ vcg p (opr m (dv p v) (vo r) N e0) (vadd (opr m (dv p v) (dv p a) i (dv p b)) (vsm (dv p a i) (tXn m (dv p v) i (opr m (dv p v) (dv p b) j e0)))), fun r z => (m - z).toNat, ⟨0, rfl, Nat.zero_le _, hl, hcn, ?_⟩, ?_⟩
    · show vcg p _ (vadd _ (vsm _ (tXn m (dv p v) i vz)))
      rw [tXn_z, vsm_z, vadd_z]; exact hE
    rintro r _ ⟨j, rfl, hj, hr, hcr, hEr⟩
    dsimp only
    rw [show (i : Int) + (j : Int) = ((i + j : Nat) : Int) by push_cast; rfl, gi_nat, gi_nat, gi_nat, si_nat, hva, hvb]
    refine ⟨fun hltj => ?_, fun hgej => ?_⟩
    · have c1 := dv_le (p := p) (by omega) a i
      have c2 := dv_le (p := p) (by omega) b j
      have c3 := hcr (i + j) (by omega)
      have c4 := bd_mul (a := dv p a i) (b := dv p b j) hp2 ⟨c1.1, by omega⟩ ⟨c2.1, by omega⟩
      refine ⟨smallN (by omega), smallN (by omega), ⟨by omega, by omega⟩, ⟨by omega, by omega⟩, ⟨by omega, by omega⟩, small (by omega) (by omega), small (by omega) (by omega), by omega, ⟨by omega, by omega⟩, small (by omega) (by omega), ⟨j + 1, by push_cast; rfl, by omega, by rw [List.length_set, hr], fun t ht => ?_, ?_⟩, by omega⟩
      · rw [vo_set]; split
        · rw [Int.tmod_eq_emod_of_nonneg (by omega)]
          exact ⟨Int.emod_nonneg _ (by omega), Int.emod_lt_of_pos _ (by omega)⟩
        · exact hcr t ht
      · have hup := opr_upd (p := p) (m := m) (c := dv p v) (w := vo r) (w' := vo (r.set (i + j) ((vo r (i + j) + dv p a i * dv p b j).tmod p))) (u := e0) (s := dv p a i * dv p b j) (k := i + j) (by
          rw [vo_set, if_pos ⟨rfl, by omega⟩, Int.tmod_eq_emod_of_nonneg (by omega), Int.emod_emod]) (fun t ht => by rw [vo_set, if_neg (fun h => ht h.1.symm)]) N
        rw [if_pos (by omega)] at hup
        refine hup.trans ((hEr.add (vcg.refl _)).trans ?_)
        show vcg p _ (vadd _ (vsm _ (tXn m (dv p v) i (vadd (opr m (dv p v) (dv p b) j e0) (vsm (dv p b j) (tXn m (dv p v) j e0))))))
        rw [tXn_add, tXn_sm, tXn_tXn, vsm_add, vsm_sm, ← vadd_assoc]
        exact vcg.refl _
    · have hjm : j = m := by omega
      subst hjm
      rw [hself] at hEr
      exact ⟨small (by omega) (by omega), ⟨i + 1, by push_cast; rfl, by omega, hr, hcr, hEr⟩, by omega⟩
  · have him : i = m := by omega
    subst him
    have hE2 : vcg p (opr i (dv p v) (vo l) N e0) (vmul i (dv p v) (dv p b) (dv p a)) := hE
    refine ⟨small (by omega) (by omega), small (by omega) (by omega), ?_⟩
    refine ⟨fun r z => ∃ t : Nat, z = (t : Int) - 1 ∧ i ≤ t ∧ t ≤ N ∧ r.length = N ∧ Cn p N (vo r) ∧ vcg p (opr i (dv p v) (vo r) t e0) (vmul i (dv p v) (dv p b) (dv p a)), fun r z => (z + 1).toNat, ⟨N, by omega, by omega, by omega, hl, hcn, hE2⟩, ?_⟩
    rintro r _ ⟨t, rfl, hit, htN, hr, hcr, hEr⟩
    dsimp only
    refine ⟨fun hle => ?_, fun hgt => ?_⟩
    · obtain ⟨k, rfl⟩ : ∃ k, t = k + 1 := ⟨t - 1, by omega⟩
      have ek : ((k + 1 : Nat) : Int) - 1 = (k : Int) := by omega
      rw [ek] at hle ⊢
      have hm1 : i ≠ 1 := by omega
      have hmf : vo mf = dv p v := F.vo
      have hml : mf.length = i := (F.cn hm1).1
      have hwk := hcr k (by omega)
      refine ⟨fun s z => ∃ j : Nat, z = j ∧ j ≤ i ∧ s.length = N ∧ Cn p N (vo s) ∧ vo s k = vo r k ∧ vcg p (opr i (dv p v) (vo s) k e0) (vadd (opr i (dv p v) (vo r) k e0) (vsm (-(vo r k)) (tXn i (dv p v) (k - i) (opr i (dv p v) (dv p v) j e0)))), fun s z => (i - z).toNat, ⟨0, rfl, Nat.zero_le _, hr, hcr, rfl, ?_⟩, ?_⟩
      · show vcg p _ (vadd _ (vsm _ (tXn i (dv p v) (k - i) vz)))
        rw [tXn_z, vsm_z, vadd_z]; exact vcg.refl _
      rintro s _ ⟨j, rfl, hj, hs, hcs, hsk, hEs⟩
      dsimp only
      rw [show (k : Int) - (i : Int) + (j : Int) = ((k - i + j : Nat) : Int) by omega, gi_nat, gi_nat, gi_nat, si_nat, hmf, hsk]
      refine ⟨fun hltj => ?_, fun hgej => ?_⟩
      · have c1 := dv_le (p := p) (by omega) v j
        have c3 := hcs (k - i + j) (by omega)
        have c4 := bd_mul (a := (p : Int) - vo r k) (b := dv p v j) hp2 ⟨by omega, by omega⟩ ⟨c1.1, by omega⟩
        refine ⟨small (by omega) (by omega), smallN (by omega), small (by omega) (by omega), smallN (by omega), ⟨by omega, by omega⟩, ⟨by omega, by omega⟩, small (by omega) (by omega), ⟨by omega, by omega⟩, small (by omega) (by omega), small (by omega) (by omega), by omega, ⟨by omega, by omega⟩, small (by omega) (by omega), ⟨j + 1, by push_cast; rfl, by omega, by rw [List.length_set, hs], fun u hu => ?_, ?_, ?_⟩, by omega⟩
        · rw [vo_set]; split
          · rw [Int.tmod_eq_emod_of_nonneg (by omega)]
            exact ⟨Int.emod_nonneg _ (by omega), Int.emod_lt_of_pos _ (by omega)⟩
          · exact hcs u hu
        · rw [vo_set, if_neg (by omega)]; exact hsk
        · have hup := opr_upd (p := p) (m := i) (c := dv p v) (w := vo s) (w' := vo (s.set (k - i + j) ((vo s (k - i + j) + ((p : Int) - vo r k) * dv p v j).tmod p))) (u := e0) (s := -(vo r k) * dv p v j) (k := k - i + j) (by
            rw [vo_set, if_pos ⟨rfl, by omega⟩, red_eq (by omega) c3.1 (by omega) c1.1, Int.emod_emod, Int.neg_mul]; rfl) (fun t ht => by rw [vo_set, if_neg (fun h => ht h.1.symm)]) k
          rw [if_pos (by omega)] at hup
          refine hup.trans ((hEs.add (vcg.refl _)).trans ?_)
          show vcg p _ (vadd _ (vsm _ (tXn i (dv p v) (k - i) (vadd (opr i (dv p v) (dv p v) j e0) (vsm (dv p v j) (tXn i (dv p v) j e0))))))
          rw [tXn_add, tXn_sm, tXn_tXn, vsm_add, vsm_sm, ← vadd_assoc]
          exact vcg.refl _
      · have hji : j = i := by omega
        subst hji
        refine ⟨small (by omega) (by omega), ⟨k, by omega, by omega, by omega, hs, hcs, ?_⟩, by omega⟩
        refine hEs.trans (vcg.trans ?_ hEr)
        show vcg p _ (vadd (opr j (dv p v) (vo r) k e0) (vsm (vo r k) (tXn j (dv p v) k e0)))
        have e1 : tXn j (dv p v) k e0 = tXn j (dv p v) (k - j) (tXn j (dv p v) j e0) := by rw [tXn_tXn, show k - j + j = k by omega]
        rw [e1, Xm hm0, tXn_sm, vsm_sm, show vo r k * -1 = -(vo r k) by omega]
        exact vcg.refl _
    · have hti : t = i := by omega
      subst hti
      refine ⟨⟨by omega, by omega⟩, _, v_rVal F (u := opr t (dv p v) (vo r) t e0) ?_ (fun j hj => ?_) rfl, ?_⟩
      · rw [List.length_take, Int.toNat_natCast, hr]; omega
      · rw [Int.toNat_natCast, take_vo hj, opr_e0 (Nat.le_refl _), if_pos hj]
        have := hcr j (by omega)
        exact (Int.emod_eq_of_lt this.1 this.2).symm
      · rw [nm_vcg hEr]
        exact h
/-- sums of products -/
def fdot (p m : Nat) (c : Vec) (l o : List Int) : Nat → Nat
  | 0 => 0
  | k + 1 => fadd p m (fdot p m c l o k) (fmul p m c (inE (p ^ m) (vo l k)) (inE (p ^ m) (vo o k)))
theorem fdot_lt {c : Vec} {l o : List Int} (hp : 0 < p) : ∀ k, fdot p m c l o k < p ^ m
  | 0 => Nat.pow_pos hp
  | k + 1 => fadd_lt hp _ _
end
end Go.Proofs.Ytcmfjjbbcfddpaa
set_option linter.unusedSimpArgs false
set_option linter.unusedVariables false
set_option maxRecDepth 4000
set_option maxHeartbeats 4000000
namespace Go.Proofs.Ytcmfjjbbcfddpaa
open Go.RowKit
def V_Inner (Fg : GFv) (a : List Int) (b : List Int) (Q : Int × Int → Prop) : Prop :=
  ((((a.length : Nat) : Int) ≠ ((b.length : Nat) : Int)) → (Q ((0 : Int), (4 : Int)))) ∧ (¬ (((a.length : Nat) : Int) ≠ ((b.length : Nat) : Int)) → (V_Dot Fg a b (fun r13 => Q (r13, (0 : Int)))))
theorem ok_Inner {w : World} {Q : Int × Int → Prop} {Fg : GFv} {a : List Int} {b : List Int} {ag : Addr} {Bg : Nat} (hgg : GFR Bg w ag Fg) {Ba : Nat} {Aa : Option Addr} {na ka : Nat} (ha : Rd Ba w 1 Aa na ka (is a)) {Bb : Nat} {Ab : Option Addr} {nb kb : Nat} (hb : Rd Bb w 1 Ab nb kb (is b)) (hv : V_Inner Fg a b Q) :
    Calls Try.prog 30 #[.pointer (some ag), .slice Aa na ka, .slice Ab nb kb] w fun e w' => ∃ v Qr, e = .returned v ∧ w.grownBy w' none ∧ Rows w.heap.size none w' Qr ∧ News w.heap.size Qr ∧ ∃ (r0 : Int) (r1 : Int), v = .tuple #[.int .i64 r0, .int .i64 r1] ∧ Qr = [] ∧ Q (r0, r1) := by
  have hgg_ := hgg
  obtain ⟨Ag_mod, kg_mod, Ag_exp, kg_exp, Ag_log, kg_log, Ag_above, kg_above, hg_c, hg_mod, hg_exp, hg_log, hg_above⟩ := hgg_
  have hna := ha.ilen
  subst hna
  have hnb := hb.ilen
  subst hnb
  refine calls_swap <| calls_of_W (vs := [.pointer (some ag), .slice Aa a.length ka, .slice Ab b.length kb]) [6, 7] XF30 rfl rfl rfl rfl ?_
  have hS := St.start w
  unfold V_Inner at hv
  refine W.seq <| W.region <| WL.assign rfl rfl <| WL.assign rfl rfl <| WL.done <| W.seq <| W.seq <| W.region <| WL.move rfl rfl <| WL.len XU22 rfl rfl <| WL.move rfl rfl <| WL.len XU22 rfl rfl <| WL.neqD rfl rfl rfl <| WL.done <| W.cond2 rfl (fun c11 => ?_) (fun c11 => ?_)
  ·have hv := hv.1 (of_decide_eq_true c11)
   refine W.seq <| W.region <| WL.assign rfl rfl <| WL.assign rfl rfl <| WL.done <| W.ret <| ⟨_, rfl, Fin.nil ?_⟩
   exact ⟨_, hS.ext, (hS.pick [] rfl).rows, News.of (hS.pick [] rfl).rows rfl, ⟨(0 : Int), (4 : Int), rfl, rfl, hv⟩⟩
  have hv := hv.2 (of_decide_eq_false c11)
  refine W.skip <| W.seq <| W.region <| WL.move rfl rfl <| WL.move rfl rfl <| WL.move rfl rfl <| SL.call hS (ok_Dot (GFR.ext (GFR.norm hgg) hS.ext) (hS.ro ha) (hS.ro hb) hv) XF61 rfl XN61 rfl rfl ?_
  rintro _ _ w12 ⟨r13, rfl, rfl, hv⟩ hGw12 hS
  have hS := hS.n0
  refine WL.assign rfl rfl <| WL.assign rfl rfl <| WL.done <| W.ret <| ⟨_, rfl, Fin.nil ?_⟩
  exact ⟨_, hS.ext, (hS.pick [] rfl).rows, News.of (hS.pick [] rfl).rows rfl, ⟨r13, (0 : Int), rfl, rfl, hv⟩⟩
end Go.Proofs.Ytcmfjjbbcfddpaa
set_option linter.unusedSimpArgs false
set_option linter.unusedVariables false
set_option maxRecDepth 4000
set_option maxHeartbeats 4000000
namespace Go.Proofs.Ytcmfjjbbcfddpaa
open Go.RowKit
def V_rInner (Pf : Int) (Mf : Int) (mf : List Int) (a : List Int) (b : List Int) (Q : Int × Int → Prop) : Prop :=
  ((((a.length : Nat) : Int) ≠ ((b.length : Nat) : Int)) → (Q ((0 : Int), (4 : Int)))) ∧ (¬ (((a.length : Nat) : Int) ≠ ((b.length : Nat) : Int)) → (V_rDot Pf Mf mf a b (fun r15 => Q (r15, (0 : Int)))))
theorem ok_rInner {w : World} {Q : Int × Int → Prop} {Pf : Int} {Mf : Int} {mf : List Int} {a : List Int} {b : List Int} {Bf : Nat} {Af : Option Addr} {nf kf : Nat} (hf : Rd Bf w 1 Af nf kf (is mf)) {Ba : Nat} {Aa : Option Addr} {na ka : Nat} (ha : Rd Ba w 1 Aa na ka (is a)) {Bb : Nat} {Ab : Option Addr} {nb kb : Nat} (hb : Rd Bb w 1 Ab nb kb (is b)) (hv : V_rInner Pf Mf mf a b Q) :
    Calls Try.prog 31 #[.agg #[.int .i64 Pf, .int .i64 Mf, .slice Af nf kf], .slice Aa na ka, .slice Ab nb kb] w fun e w' => ∃ v Qr, e = .returned v ∧ w.grownBy w' none ∧ Rows w.heap.size none w' Qr ∧ News w.heap.size Qr ∧ ∃ (r0 : Int) (r1 : Int), v = .tuple #[.int .i64 r0, .int .i64 r1] ∧ Qr = [] ∧ Q (r0, r1) := by
  have hnf := hf.ilen
  subst hnf
  have hna := ha.ilen
  subst hna
  have hnb := hb.ilen
  subst hnb
  refine calls_swap <| calls_of_W (vs := [.agg #[.int .i64 Pf, .int .i64 Mf, .slice Af mf.length kf], .slice Aa a.length ka, .slice Ab b.length kb]) [6, 7] XF31 rfl rfl rfl rfl ?_
  have hS := St.start w
  unfold V_rInner at hv
  refine W.seq <| W.region <| SL.box (z := 3) (cs := [.int .i64 Pf, .int .i64 Mf, .slice Af mf.length kf]) hS rfl rfl rfl rfl ?_
  intro g11 w12 hS
  refine WL.assign rfl rfl <| WL.assign rfl rfl <| WL.done <| W.seq <| W.seq <| W.region <| WL.move rfl rfl <| WL.len XU22 rfl rfl <| WL.move rfl rfl <| WL.len XU22 rfl rfl <| WL.neqD rfl rfl rfl <| WL.done <| W.cond2 rfl (fun c13 => ?_) (fun c13 => ?_)
  ·have hv := hv.1 (of_decide_eq_true c13)
   refine W.seq <| W.region <| WL.assign rfl rfl <| WL.assign rfl rfl <| WL.done <| W.ret <| ⟨_, rfl, Fin.nil ?_⟩
   exact ⟨_, hS.ext, (hS.pick [] rfl).rows, News.of (hS.pick [] rfl).rows rfl, ⟨(0 : Int), (4 : Int), rfl, rfl, hv⟩⟩
  have hv := hv.2 (of_decide_eq_false c13)
  refine W.skip <| W.seq <| W.region <| WL.loadV (cs := [.int .i64 Pf, .int .i64 Mf, .slice Af mf.length kf]) XE24 XG24 rfl rfl (Own.vcells (hS.own (i := 0) rfl)) rfl <| WL.move rfl rfl <| WL.move rfl rfl <| SL.call hS (ok_rDot (hS.ro hf) (hS.ro ha) (hS.ro hb) hv) XF62 rfl XN62 rfl rfl ?_
  rintro _ _ w14 ⟨r15, rfl, rfl, hv⟩ hGw14 hS
  have hS := hS.n0
  refine WL.assign rfl rfl <| WL.assign rfl rfl <| WL.done <| W.ret <| ⟨_, rfl, Fin.nil ?_⟩
  exact ⟨_, hS.ext, (hS.pick [] rfl).rows, News.of (hS.pick [] rfl).rows rfl, ⟨r15, (0 : Int), rfl, rfl, hv⟩⟩
end Go.Proofs.Ytcmfjjbbcfddpaa
set_option linter.unusedVariables false
set_option linter.unusedSimpArgs false
namespace Go.Proofs.Ytcmfjjbbcfddpaa
/-! ### lists of whatever length: cleaning, comparing, positions -/
theorem bigI {x : Int} (h : -4611686018427387904 ≤ x) (h2 : x ≤ 4611686018427387904) : I64 x := ⟨by omega, by omega⟩
section
variable {P M : Int} {mf : List Int} {p m v : Nat}
end
section
variable {F : GFv} {p m v g : Nat}
end
end Go.Proofs.Ytcmfjjbbcfddpaa
set_option linter.unusedVariables false
set_option linter.unusedSimpArgs false
namespace Go.Proofs.Ytcmfjjbbcfddpaa
/-! ### inner products -/
section
variable {P M : Int} {mf : List Int} {p m v : Nat}
theorem v_rDotB (F : FV P M mf p m v) {l o : List Int} {Q : Int → Prop} (hl : l.length ≤ LB) (ho : o.length ≤ LB) (h : Q ((fdot p m (dv p v) l o (min l.length o.length) : Nat) : Int)) : V_rDot P M mf l o Q := by
  have hp := F.p2
  unfold LB at hl ho
  refine ⟨fun z => z = ((fdot p m (dv p v) l o (min l.length o.length) : Nat) : Int), ⟨fun z i => ∃ k : Nat, i = k ∧ k ≤ min l.length o.length ∧ z = ((fdot p m (dv p v) l o k : Nat) : Int), fun z i => (l.length - i).toNat, ⟨0, rfl, Nat.zero_le _, rfl⟩, ?_⟩, fun z hz => by rw [hz]; exact h⟩
  rintro _ _ ⟨k, rfl, hk, rfl⟩
  dsimp only
  rw [gi_nat, gi_nat]
  refine ⟨fun h1 => ⟨fun h2 => ?_, fun h2 => ?_⟩, fun h1 => ?_⟩
  · refine ⟨⟨by omega, by omega⟩, ⟨by omega, by omega⟩, _, v_rMul F rfl, _, v_rAdd F rfl, bigI (by omega) (by omega), ⟨k + 1, by push_cast; rfl, by omega, ?_⟩, by omega⟩
    rw [inE_nat (fdot_lt (by omega) k), inE_nat (fmul_lt (by omega) _ _)]; rfl
  · rw [show min l.length o.length = k by omega]
  · rw [show min l.length o.length = k by omega]
theorem fdot_comm (F : FV P M mf p m v) (l o : List Int) : ∀ k, fdot p m (dv p v) l o k = fdot p m (dv p v) o l k
  | 0 => rfl
  | k + 1 => by
    have R := F.ring
    unfold fdot
    rw [fdot_comm F l o k, R.Mc (inE_lt R.pos _) (inE_lt R.pos _)]
theorem fdot_add (F : FV P M mf p m v) {a b c : List Int} : ∀ k, k ≤ a.length → fdot p m (dv p v) (zwf (eadd p m) a b) c k = fadd p m (fdot p m (dv p v) a c k) (fdot p m (dv p v) b c k)
  | 0, _ => (F.ring.Az F.ring.pos).symm
  | k + 1, hk => by
    have R := F.ring
    have hp : 0 < p := by have := F.p2; omega
    unfold fdot
    rw [fdot_add F k (by omega), zwf_at (by omega), inE_eadd hp]
    generalize hu : inE (p ^ m) (vo a k) = u
    generalize hw : inE (p ^ m) (vo b k) = w
    generalize hz : inE (p ^ m) (vo c k) = z
    have h1 : u < p ^ m := hu ▸ inE_lt R.pos _
    have h2 : w < p ^ m := hw ▸ inE_lt R.pos _
    have h3 : z < p ^ m := hz ▸ inE_lt R.pos _
    have h4 := fdot_lt (m := m) (c := dv p v) (l := a) (o := c) hp k
    have h5 := fdot_lt (m := m) (c := dv p v) (l := b) (o := c) hp k
    rw [R.Mc (R.Al _ _) h3, R.Md h3 h1 h2, R.Mc h3 h1, R.Mc h3 h2]
    have e1 := R.Ml u z
    have e2 := R.Ml w z
    generalize fmul p m (dv p v) u z = s at *
    generalize fmul p m (dv p v) w z = t at *
    generalize fdot p m (dv p v) a c k = A at *
    generalize fdot p m (dv p v) b c k = B at *
    rw [R.Aa h4 h5 (R.Al _ _), R.Aa h4 e1 (R.Al _ _), ← R.Aa h5 e1 e2, R.Ac B s, R.Aa e1 h5 e2]
end
section
variable {F : GFv} {p m v g : Nat}
theorem v_DotB {l o : List Int} {Q : Int → Prop} (K : GFk F p m v g) (hl : l.length ≤ LB) (ho : o.length ≤ LB) (h : Q ((fdot p m (dv p v) l o (min l.length o.length) : Nat) : Int)) : V_Dot F l o Q := by
  have hp := K.fv.p2
  unfold LB at hl ho
  refine ⟨fun z i => ∃ k : Nat, i = k ∧ k ≤ min l.length o.length ∧ z = ((fdot p m (dv p v) l o k : Nat) : Int), fun z i => (l.length - i).toNat, ⟨0, rfl, Nat.zero_le _, rfl⟩, ?_⟩
  rintro _ _ ⟨k, rfl, hk, rfl⟩
  dsimp only
  rw [gi_nat, gi_nat]
  refine ⟨fun hlt => ?_, fun hge => by rw [show k = min l.length o.length by omega]; exact h⟩
  refine ⟨⟨by omega, by omega⟩, ⟨by omega, by omega⟩, _, v_Mul K rfl, _, v_Add K rfl, bigI (by omega) (by omega), ⟨k + 1, by push_cast; rfl, by omega, ?_⟩, by omega⟩
  rw [inE_nat (fdot_lt (by omega) k), inE_nat (fmul_lt (by omega) _ _)]; rfl
theorem v_Inner {a b : List Int} {Q : Int × Int → Prop} (K : GFk F p m v g) (hl : a.length ≤ LB) (ho : b.length ≤ LB) (h0 : a.length ≠ b.length → Q (0, 4)) (h1 : a.length = b.length → Q (((fdot p m (dv p v) a b a.length : Nat) : Int), 0)) : V_Inner F a b Q := by
  refine ⟨fun e => h0 (by omega), fun e => v_DotB K hl ho ?_⟩
  rw [show min a.length b.length = a.length by omega]; exact h1 (by omega)
end
theorem v_rInner {P M : Int} {mf : List Int} {p m v : Nat} {a b : List Int} {Q : Int × Int → Prop} (F : FV P M mf p m v) (hl : a.length ≤ LB) (ho : b.length ≤ LB) (h0 : a.length ≠ b.length → Q (0, 4)) (h1 : a.length = b.length → Q (((fdot p m (dv p v) a b a.length : Nat) : Int), 0)) : V_rInner P M mf a b Q := by
  refine ⟨fun e => h0 (by omega), fun e => v_rDotB F hl ho ?_⟩
  rw [show min a.length b.length = a.length by omega]; exact h1 (by omega)
end Go.Proofs.Ytcmfjjbbcfddpaa
set_option linter.unusedSimpArgs false
set_option linter.unusedVariables false
set_option maxRecDepth 4000
set_option maxHeartbeats 4000000
namespace Go.Proofs.Ytcmfjjbbcfddpaa
open Go.RowKit
def V_LInner (Pl : Int) (Ml : Int) (ml : List Int) (la : List Int) (lb : List Int) (lc : List Int) (Q : Bool → Prop) : Prop :=
  V_open Pl Ml ml (fun q => match q with | (none, r15) => Q r15 | (some F16, _) => V_Inner F16 la lb (fun q => match q with | (r23, r24) => V_rInner Pl Ml ml la lb (fun q => match q with | (r26, r27) => ((r23 ≠ r26) → Q false) ∧ (¬ (r23 ≠ r26) → (((r24 ≠ r27) → Q false) ∧ (¬ (r24 ≠ r27) → (V_Inner F16 lb la (fun q => match q with | (r31, r32) => ((r31 ≠ r23) → Q false) ∧ (¬ (r31 ≠ r23) → (((r32 ≠ r27) → Q false) ∧ (¬ (r32 ≠ r27) → (((((la.length : Nat) : Int) = ((lb.length : Nat) : Int)) → (∃ J36 : Prop, (((((lb.length : Nat) : Int) = ((lc.length : Nat) : Int)) → (V_wAdd F16 la lb (fun q => match q with | (x39, r43) => V_Inner F16 x39 lc (fun q => match q with | (r45, r46) => V_Inner F16 la lc (fun q => match q with | (r48, r49) => V_Inner F16 lb lc (fun q => match q with | (r51, r52) => ((r43 ≠ (0 : Int)) → Q false) ∧ (¬ (r43 ≠ (0 : Int)) → (((r46 ≠ (0 : Int)) → Q false) ∧ (¬ (r46 ≠ (0 : Int)) → (((r49 ≠ (0 : Int)) → Q false) ∧ (¬ (r49 ≠ (0 : Int)) → (((r52 ≠ (0 : Int)) → Q false) ∧ (¬ (r52 ≠ (0 : Int)) → (V_rAdd Pl Ml ml r48 r51 (fun r58 => ((r45 ≠ r58) → Q false) ∧ (¬ (r45 ≠ r58) → J36)))))))))))))))) ∧ (¬ (((lb.length : Nat) : Int) = ((lc.length : Nat) : Int)) → J36)) ∧ (J36 → (V_Inner F16 ([(1 : Int), (0 : Int), (1 : Int)] : List Int) ([(1 : Int), (1 : Int), (0 : Int)] : List Int) (fun q => match q with | (r68, r69) => ((r68 = (1 : Int)) → (Q (decide (r69 = (0 : Int))))) ∧ (¬ (r68 = (1 : Int)) → Q false)))))) ∧ (¬ (((la.length : Nat) : Int) = ((lb.length : Nat) : Int)) → (V_Inner F16 ([(1 : Int), (0 : Int), (1 : Int)] : List Int) ([(1 : Int), (1 : Int), (0 : Int)] : List Int) (fun q => match q with | (r79, r80) => ((r79 = (1 : Int)) → (Q (decide (r80 = (0 : Int))))) ∧ (¬ (r79 = (1 : Int)) → Q false))))))))))))))))
theorem ok_LInner {w : World} {Q : Bool → Prop} {Pl : Int} {Ml : Int} {ml : List Int} {la : List Int} {lb : List Int} {lc : List Int} {Bl : Nat} {Al : Option Addr} {nl kl : Nat} (hl : Rd Bl w 1 Al nl kl (is ml)) {Bla : Nat} {Ala : Option Addr} {nla kla : Nat} (hla : Rd Bla w 1 Ala nla kla (is la)) {Blb : Nat} {Alb : Option Addr} {nlb klb : Nat} (hlb : Rd Blb w 1 Alb nlb klb (is lb)) {Blc : Nat} {Alc : Option Addr} {nlc klc : Nat} (hlc : Rd Blc w 1 Alc nlc klc (is lc)) (hv : V_LInner Pl Ml ml la lb lc Q) :
    Calls Try.prog 7 #[.agg #[.int .i64 Pl, .int .i64 Ml, .slice Al nl kl, .slice Ala nla kla, .slice Alb nlb klb, .slice Alc nlc klc]] w fun e w' => ∃ v Qr, e = .returned v ∧ w.grownBy w' none ∧ Rows w.heap.size none w' Qr ∧ News w.heap.size Qr ∧ ∃ (r0 : Bool), v = .bool r0 ∧ Qr = [] ∧ Q r0 := by
  have hnl := hl.ilen
  subst hnl
  have hnla := hla.ilen
  subst hnla
  have hnlb := hlb.ilen
  subst hnlb
  have hnlc := hlc.ilen
  subst hnlc
  refine calls_swap <| calls_of_W (vs := [.agg #[.int .i64 Pl, .int .i64 Ml, .slice Al ml.length kl, .slice Ala la.length kla, .slice Alb lb.length klb, .slice Alc lc.length klc]]) [2] XF7 rfl rfl rfl rfl ?_
  have hS := St.start w
  unfold V_LInner at hv
  refine W.seq <| W.region <| SL.box (z := 6) (cs := [.int .i64 Pl, .int .i64 Ml, .slice Al ml.length kl, .slice Ala la.length kla, .slice Alb lb.length klb, .slice Alc lc.length klc]) hS rfl rfl rfl rfl ?_
  intro g11 w12 hS
  refine WL.assign rfl rfl <| WL.done <| W.seq <| W.region <| WL.fieldA (off := 0) XA41_0 rfl rfl <| WL.loadV (cs := [.int .i64 Pl, .int .i64 Ml, .slice Al ml.length kl]) XE24 XG24 rfl rfl (vpart (hS.rd (i := 0) rfl) 0 rfl) rfl <| SL.call hS (ok_open (hS.ro hl) hv) XF17 rfl XN17 rfl rfl ?_
  rintro _ _ w14 ⟨o, r15, hv, hK⟩ hGw14 hS
  cases o with
  | none =>
    obtain ⟨rfl, rfl⟩ := hK
    change St _ _ _ _ [.row 41 6 (some ⟨g11, 0, none⟩) 1 1 [.int .i64 Pl, .int .i64 Ml, .slice Al ml.length kl, .slice Ala la.length kla, .slice Alb lb.length klb, .slice Alc lc.length klc]] at hS
    refine WL.move rfl rfl <| WL.extract rfl rfl rfl <| WL.extract rfl rfl rfl <| WL.extract rfl rfl rfl <| WL.assign rfl rfl <| WL.assign rfl rfl <| WL.assign rfl rfl <| WL.done <| W.seq <| W.seq <| W.region <| WL.move rfl rfl <| WL.done <| W.condT rfl <| W.seq <| W.region <| WL.move rfl rfl <| WL.assign rfl rfl <| WL.done <| W.ret <| ⟨_, rfl, Fin.nil ?_⟩
    exact ⟨_, hS.ext, (hS.pick [] rfl).rows, News.of (hS.pick [] rfl).rows rfl, ⟨r15, rfl, rfl, hv⟩⟩
  | some F16 =>
    obtain ⟨ad17, lo18, hi19, rfl, rfl⟩ := hK
    change St _ _ _ _ [.ch lo18 hi19 (fun wz => GFX lo18 hi19 wz ad17 F16), .row 41 6 (some ⟨g11, 0, none⟩) 1 1 [.int .i64 Pl, .int .i64 Ml, .slice Al ml.length kl, .slice Ala la.length kla, .slice Alb lb.length klb, .slice Alc lc.length klc]] at hS
    refine WL.move rfl rfl <| WL.extract rfl rfl rfl <| WL.extract rfl rfl rfl <| WL.extract rfl rfl rfl <| WL.assign rfl rfl <| WL.assign rfl rfl <| WL.assign rfl rfl <| WL.done <| W.seq <| W.seq <| W.region <| WL.move rfl rfl <| WL.done <| W.condF rfl <| W.skip <| W.seq <| W.region <| WL.move rfl rfl <| WL.fieldA (off := 3) XA41_1 rfl rfl <| WL.load XU22 rfl rfl (Own.vcells (hS.own (i := 1) rfl) 3 _ rfl) rfl <| WL.fieldA (off := 4) XA41_2 rfl rfl <| WL.load XU22 rfl rfl (Own.vcells (hS.own (i := 1) rfl) 4 _ rfl) rfl <| SL.call hS (ok_Inner (GFX.gfr (hS.chunk (i := 0) rfl)) (hS.ro hla) (hS.ro hlb) hv) XF30 rfl XN30 rfl rfl ?_
    rintro _ _ w22 ⟨r23, r24, rfl, rfl, hv⟩ hGw22 hS
    have hS := hS.n0
    refine WL.move rfl rfl <| WL.extract rfl rfl rfl <| WL.extract rfl rfl rfl <| WL.assign rfl rfl <| WL.assign rfl rfl <| WL.done <| W.seq <| W.region <| WL.fieldA (off := 0) XA41_0 rfl rfl <| WL.loadV (cs := [.int .i64 Pl, .int .i64 Ml, .slice Al ml.length kl]) XE24 XG24 rfl rfl (vpart (hS.rd (i := 1) rfl) 0 rfl) rfl <| WL.fieldA (off := 3) XA41_1 rfl rfl <| WL.load XU22 rfl rfl (Own.vcells (hS.own (i := 1) rfl) 3 _ rfl) rfl <| WL.fieldA (off := 4) XA41_2 rfl rfl <| WL.load XU22 rfl rfl (Own.vcells (hS.own (i := 1) rfl) 4 _ rfl) rfl <| SL.call hS (ok_rInner (hS.ro hl) (hS.ro hla) (hS.ro hlb) hv) XF31 rfl XN31 rfl rfl ?_
    rintro _ _ w25 ⟨r26, r27, rfl, rfl, hv⟩ hGw25 hS
    have hS := hS.n0
    refine WL.move rfl rfl <| WL.extract rfl rfl rfl <| WL.extract rfl rfl rfl <| WL.assign rfl rfl <| WL.assign rfl rfl <| WL.done <| W.seq <| W.seq <| W.region <| WL.move rfl rfl <| WL.move rfl rfl <| WL.neqD rfl rfl rfl <| WL.move rfl rfl ?_
    by_cases g28 : r23 ≠ r26
    ·have hv := hv.1 g28
     rw [decide_eq_true g28]
     refine WL.pass rfl rfl rfl <| WL.pass rfl rfl rfl <| WL.pass rfl rfl rfl <| WL.pick rfl rfl rfl <| WL.done <| W.condT rfl <| W.seq <| W.region <| WL.assign rfl rfl <| WL.done <| W.ret <| ⟨_, rfl, Fin.nil ?_⟩
     exact ⟨_, hS.ext, (hS.pick [] rfl).rows, News.of (hS.pick [] rfl).rows rfl, ⟨false, rfl, rfl, hv⟩⟩
    have hv := hv.2 g28
    rw [decide_eq_false g28]
    refine WL.take rfl <| WL.move rfl rfl <| WL.take rfl <| WL.move rfl rfl <| WL.take rfl <| WL.neqD rfl rfl rfl <| WL.pick rfl rfl rfl <| WL.done <| W.cond2 rfl (fun c29 => ?_) (fun c29 => ?_)
    ·have hv := hv.1 (of_decide_eq_true c29)
     refine W.seq <| W.region <| WL.assign rfl rfl <| WL.done <| W.ret <| ⟨_, rfl, Fin.nil ?_⟩
     exact ⟨_, hS.ext, (hS.pick [] rfl).rows, News.of (hS.pick [] rfl).rows rfl, ⟨false, rfl, rfl, hv⟩⟩
    have hv := hv.2 (of_decide_eq_false c29)
    refine W.skip <| W.seq <| W.region <| WL.move rfl rfl <| WL.fieldA (off := 4) XA41_2 rfl rfl <| WL.load XU22 rfl rfl (Own.vcells (hS.own (i := 1) rfl) 4 _ rfl) rfl <| WL.fieldA (off := 3) XA41_1 rfl rfl <| WL.load XU22 rfl rfl (Own.vcells (hS.own (i := 1) rfl) 3 _ rfl) rfl <| SL.call hS (ok_Inner (GFX.gfr (hS.chunk (i := 0) rfl)) (hS.ro hlb) (hS.ro hla) hv) XF30 rfl XN30 rfl rfl ?_
    rintro _ _ w30 ⟨r31, r32, rfl, rfl, hv⟩ hGw30 hS
    have hS := hS.n0
    refine WL.move rfl rfl <| WL.extract rfl rfl rfl <| WL.extract rfl rfl rfl <| WL.assign rfl rfl <| WL.assign rfl rfl <| WL.done <| W.seq <| W.seq <| W.region <| WL.move rfl rfl <| WL.move rfl rfl <| WL.neqD rfl rfl rfl <| WL.move rfl rfl ?_
    by_cases g33 : r31 ≠ r23
    ·have hv := hv.1 g33
     rw [decide_eq_true g33]
     refine WL.pass rfl rfl rfl <| WL.pass rfl rfl rfl <| WL.pass rfl rfl rfl <| WL.pick rfl rfl rfl <| WL.done <| W.condT rfl <| W.seq <| W.region <| WL.assign rfl rfl <| WL.done <| W.ret <| ⟨_, rfl, Fin.nil ?_⟩
     exact ⟨_, hS.ext, (hS.pick [] rfl).rows, News.of (hS.pick [] rfl).rows rfl, ⟨false, rfl, rfl, hv⟩⟩
    have hv := hv.2 g33
    rw [decide_eq_false g33]
    refine WL.take rfl <| WL.move rfl rfl <| WL.take rfl <| WL.move rfl rfl <| WL.take rfl <| WL.neqD rfl rfl rfl <| WL.pick rfl rfl rfl <| WL.done <| W.cond2 rfl (fun c34 => ?_) (fun c34 => ?_)
    ·have hv := hv.1 (of_decide_eq_true c34)
     refine W.seq <| W.region <| WL.assign rfl rfl <| WL.done <| W.ret <| ⟨_, rfl, Fin.nil ?_⟩
     exact ⟨_, hS.ext, (hS.pick [] rfl).rows, News.of (hS.pick [] rfl).rows rfl, ⟨false, rfl, rfl, hv⟩⟩
    have hv := hv.2 (of_decide_eq_false c34)
    refine W.skip <| W.seq <| W.seq <| W.region <| WL.fieldA (off := 3) XA41_1 rfl rfl <| WL.load XU22 rfl rfl (Own.vcells (hS.own (i := 1) rfl) 3 _ rfl) rfl <| WL.len XU22 rfl rfl <| WL.fieldA (off := 4) XA41_2 rfl rfl <| WL.load XU22 rfl rfl (Own.vcells (hS.own (i := 1) rfl) 4 _ rfl) rfl <| WL.len XU22 rfl rfl <| WL.eqlD rfl rfl rfl <| WL.move rfl rfl ?_
    by_cases g35 : ((la.length : Nat) : Int) = ((lb.length : Nat) : Int)
    ·have hv := hv.1 g35
     rw [decide_eq_true g35]
     refine WL.take rfl <| WL.fieldA (off := 4) XA41_2 rfl rfl <| WL.take rfl <| WL.load XU22 rfl rfl (Own.vcells (hS.own (i := 1) rfl) 4 _ rfl) rfl <| WL.take rfl <| WL.len XU22 rfl rfl <| WL.take rfl <| WL.fieldA (off := 5) XA41_3 rfl rfl <| WL.take rfl <| WL.load XU22 rfl rfl (Own.vcells (hS.own (i := 1) rfl) 5 _ rfl) rfl <| WL.take rfl <| WL.len XU22 rfl rfl <| WL.take rfl <| WL.eqlD rfl rfl rfl <| WL.pick rfl rfl rfl <| WL.done ?_
     obtain ⟨J36, hv, hk71⟩ := hv
     refine W.cutN (σ := Unit) (fun _ w1 => J36 ∧ St TT w none w1 [.ch lo18 hi19 (fun wz => GFX lo18 hi19 wz ad17 F16), .row 41 6 (some ⟨g11, 0, none⟩) 1 1 [.int .i64 Pl, .int .i64 Ml, .slice Al ml.length kl, .slice Ala la.length kla, .slice Alb lb.length klb, .slice Alc lc.length klc]]) (fun _ => [(2, .bool false), (3, .pointer (some ad17))]) ?_ ?_
     ·refine W.cond2 rfl (fun c37 => ?_) (fun c37 => ?_)
      ·have hv := hv.1 (of_decide_eq_true c37)
       refine W.seq <| W.region <| WL.move rfl rfl <| WL.fieldA (off := 3) XA41_1 rfl rfl <| WL.load XU22 rfl rfl (Own.vcells (hS.own (i := 1) rfl) 3 _ rfl) rfl <| WL.fieldA (off := 4) XA41_2 rfl rfl <| WL.load XU22 rfl rfl (Own.vcells (hS.own (i := 1) rfl) 4 _ rfl) rfl <| SL.call hS (ok_wAdd (GFX.gfr (hS.chunk (i := 0) rfl)) (hS.ro hla) (hS.ro hlb) hv) XF27 rfl XN27 rfl rfl ?_
       rintro _ _ w38 ⟨x39, r43, A40, k41, rfl, rfl, hv⟩ hGw38 hS
       have hS := hS.n1
       refine WL.move rfl rfl <| WL.extract rfl rfl rfl <| WL.extract rfl rfl rfl <| WL.assign rfl rfl <| WL.assign rfl rfl <| WL.done <| W.seq <| W.region <| WL.move rfl rfl <| WL.move rfl rfl <| WL.fieldA (off := 5) XA41_3 rfl rfl <| WL.load XU22 rfl rfl (Own.vcells (hS.own (i := 2) rfl) 5 _ rfl) rfl <| SL.call hS (ok_Inner (GFX.gfr (hS.chunk (i := 1) rfl)) (hS.rd (i := 0) rfl) (hS.ro hlc) hv) XF30 rfl XN30 rfl rfl ?_
       rintro _ _ w44 ⟨r45, r46, rfl, rfl, hv⟩ hGw44 hS
       have hS := hS.n0
       refine WL.move rfl rfl <| WL.extract rfl rfl rfl <| WL.extract rfl rfl rfl <| WL.assign rfl rfl <| WL.assign rfl rfl <| WL.done <| W.seq <| W.region <| WL.move rfl rfl <| WL.fieldA (off := 3) XA41_1 rfl rfl <| WL.load XU22 rfl rfl (Own.vcells (hS.own (i := 2) rfl) 3 _ rfl) rfl <| WL.fieldA (off := 5) XA41_3 rfl rfl <| WL.load XU22 rfl rfl (Own.vcells (hS.own (i := 2) rfl) 5 _ rfl) rfl <| SL.call hS (ok_Inner (GFX.gfr (hS.chunk (i := 1) rfl)) (hS.ro hla) (hS.ro hlc) hv) XF30 rfl XN30 rfl rfl ?_
       rintro _ _ w47 ⟨r48, r49, rfl, rfl, hv⟩ hGw47 hS
       have hS := hS.n0
       refine WL.move rfl rfl <| WL.extract rfl rfl rfl <| WL.extract rfl rfl rfl <| WL.assign rfl rfl <| WL.assign rfl rfl <| WL.done <| W.seq <| W.region <| WL.move rfl rfl <| WL.fieldA (off := 4) XA41_2 rfl rfl <| WL.load XU22 rfl rfl (Own.vcells (hS.own (i := 2) rfl) 4 _ rfl) rfl <| WL.fieldA (off := 5) XA41_3 rfl rfl <| WL.load XU22 rfl rfl (Own.vcells (hS.own (i := 2) rfl) 5 _ rfl) rfl <| SL.call hS (ok_Inner (GFX.gfr (hS.chunk (i := 1) rfl)) (hS.ro hlb) (hS.ro hlc) hv) XF30 rfl XN30 rfl rfl ?_
       rintro _ _ w50 ⟨r51, r52, rfl, rfl, hv⟩ hGw50 hS
       have hS := hS.n0
       refine WL.move rfl rfl <| WL.extract rfl rfl rfl <| WL.extract rfl rfl rfl <| WL.assign rfl rfl <| WL.assign rfl rfl <| WL.done <| W.seq <| W.region <| WL.move rfl rfl <| WL.neqD rfl rfl rfl <| WL.move rfl rfl ?_
       by_cases g53 : r43 ≠ (0 : Int)
       ·have hv := hv.1 g53
        rw [decide_eq_true g53]
        refine WL.pass rfl rfl rfl <| WL.pass rfl rfl rfl <| WL.pick rfl rfl rfl <| WL.move rfl rfl <| WL.pass rfl rfl rfl <| WL.pass rfl rfl rfl <| WL.pick rfl rfl rfl <| WL.move rfl rfl <| WL.pass rfl rfl rfl <| WL.pass rfl rfl rfl <| WL.pick rfl rfl rfl <| WL.move rfl rfl <| WL.pass rfl rfl rfl <| WL.pass rfl rfl rfl <| WL.pass rfl rfl rfl <| WL.pass rfl rfl rfl <| WL.pass rfl rfl rfl <| WL.pass rfl rfl rfl <| WL.pass rfl rfl rfl <| WL.pick rfl rfl rfl <| WL.done <| W.condT rfl <| W.seq <| W.region <| WL.assign rfl rfl <| WL.done <| W.ret <| ⟨_, rfl, Fin.nil ?_⟩
        exact ⟨_, hS.ext, (hS.pick [] rfl).rows, News.of (hS.pick [] rfl).rows rfl, ⟨false, rfl, rfl, hv⟩⟩
       have hv := hv.2 g53
       rw [decide_eq_false g53]
       refine WL.take rfl <| WL.move rfl rfl <| WL.take rfl <| WL.neqD rfl rfl rfl <| WL.pick rfl rfl rfl <| WL.move rfl rfl ?_
       by_cases g54 : r46 ≠ (0 : Int)
       ·have hv := hv.1 g54
        rw [decide_eq_true g54]
        refine WL.pass rfl rfl rfl <| WL.pass rfl rfl rfl <| WL.pick rfl rfl rfl <| WL.move rfl rfl <| WL.pass rfl rfl rfl <| WL.pass rfl rfl rfl <| WL.pick rfl rfl rfl <| WL.move rfl rfl <| WL.pass rfl rfl rfl <| WL.pass rfl rfl rfl <| WL.pass rfl rfl rfl <| WL.pass rfl rfl rfl <| WL.pass rfl rfl rfl <| WL.pass rfl rfl rfl <| WL.pass rfl rfl rfl <| WL.pick rfl rfl rfl <| WL.done <| W.condT rfl <| W.seq <| W.region <| WL.assign rfl rfl <| WL.done <| W.ret <| ⟨_, rfl, Fin.nil ?_⟩
        exact ⟨_, hS.ext, (hS.pick [] rfl).rows, News.of (hS.pick [] rfl).rows rfl, ⟨false, rfl, rfl, hv⟩⟩
       have hv := hv.2 g54
       rw [decide_eq_false g54]
       refine WL.take rfl <| WL.move rfl rfl <| WL.take rfl <| WL.neqD rfl rfl rfl <| WL.pick rfl rfl rfl <| WL.move rfl rfl ?_
       by_cases g55 : r49 ≠ (0 : Int)
       ·have hv := hv.1 g55
        rw [decide_eq_true g55]
        refine WL.pass rfl rfl rfl <| WL.pass rfl rfl rfl <| WL.pick rfl rfl rfl <| WL.move rfl rfl <| WL.pass rfl rfl rfl <| WL.pass rfl rfl rfl <| WL.pass rfl rfl rfl <| WL.pass rfl rfl rfl <| WL.pass rfl rfl rfl <| WL.pass rfl rfl rfl <| WL.pass rfl rfl rfl <| WL.pick rfl rfl rfl <| WL.done <| W.condT rfl <| W.seq <| W.region <| WL.assign rfl rfl <| WL.done <| W.ret <| ⟨_, rfl, Fin.nil ?_⟩
        exact ⟨_, hS.ext, (hS.pick [] rfl).rows, News.of (hS.pick [] rfl).rows rfl, ⟨false, rfl, rfl, hv⟩⟩
       have hv := hv.2 g55
       rw [decide_eq_false g55]
       refine WL.take rfl <| WL.move rfl rfl <| WL.take rfl <| WL.neqD rfl rfl rfl <| WL.pick rfl rfl rfl <| WL.move rfl rfl ?_
       by_cases g56 : r52 ≠ (0 : Int)
       ·have hv := hv.1 g56
        rw [decide_eq_true g56]
        refine WL.pass rfl rfl rfl <| WL.pass rfl rfl rfl <| WL.pass rfl rfl rfl <| WL.pass rfl rfl rfl <| WL.pass rfl rfl rfl <| WL.pass rfl rfl rfl <| WL.pass rfl rfl rfl <| WL.pick rfl rfl rfl <| WL.done <| W.condT rfl <| W.seq <| W.region <| WL.assign rfl rfl <| WL.done <| W.ret <| ⟨_, rfl, Fin.nil ?_⟩
        exact ⟨_, hS.ext, (hS.pick [] rfl).rows, News.of (hS.pick [] rfl).rows rfl, ⟨false, rfl, rfl, hv⟩⟩
       have hv := hv.2 g56
       rw [decide_eq_false g56]
       refine WL.take rfl <| WL.move rfl rfl <| WL.take rfl <| WL.fieldA (off := 0) XA41_0 rfl rfl <| WL.take rfl <| WL.loadV (cs := [.int .i64 Pl, .int .i64 Ml, .slice Al ml.length kl]) XE24 XG24 rfl rfl (vpart (hS.rd (i := 2) rfl) 0 rfl) rfl <| WL.take rfl <| WL.move rfl rfl <| WL.take rfl <| WL.move rfl rfl <| WL.take rfl <| SL.call hS (ok_rAdd (hS.ro hl) hv) XF32 rfl XN32 rfl rfl ?_
       rintro _ _ w57 ⟨r58, rfl, rfl, hv⟩ hGw57 hS
       have hS := hS.n0
       refine WL.take rfl <| WL.neqD rfl rfl rfl <| WL.pick rfl rfl rfl <| WL.done <| W.cond2 rfl (fun c59 => ?_) (fun c59 => ?_)
       ·have hv := hv.1 (of_decide_eq_true c59)
        refine W.seq <| W.region <| WL.assign rfl rfl <| WL.done <| W.ret <| ⟨_, rfl, Fin.nil ?_⟩
        exact ⟨_, hS.ext, (hS.pick [] rfl).rows, News.of (hS.pick [] rfl).rows rfl, ⟨false, rfl, rfl, hv⟩⟩
       have hv := hv.2 (of_decide_eq_false c59)
       refine W.skip ?_
       have hS := hS.pick [1, 2] rfl
       exact ⟨(), ⟨rfl, rfl, trivial⟩, rfl, hv, hS⟩
      have hv := hv.2 (of_decide_eq_false c37)
      refine W.skip ?_
      exact ⟨(), ⟨rfl, rfl, trivial⟩, rfl, hv, hS⟩
     rintro _ w60 ⟨hv, hS⟩
     have hv := hk71  hv
     refine W.seq <| W.region <| WL.move rfl rfl <| SL.lit1 (vs := is ([(1 : Int), (0 : Int), (1 : Int)] : List Int)) hS XU22 XE3 rfl rfl rfl rfl (is_one _) rfl ?_
     intro A61 w62 hS
     refine SL.lit1 (vs := is ([(1 : Int), (1 : Int), (0 : Int)] : List Int)) hS XU22 XE3 rfl rfl rfl rfl (is_one _) rfl ?_
     intro A64 w65 hS
     refine SL.call hS (ok_Inner (GFX.gfr (hS.chunk (i := 2) rfl)) (hS.rd (i := 1) rfl) (hS.rd (i := 0) rfl) hv) XF30 rfl XN30 rfl rfl ?_
     rintro _ _ w67 ⟨r68, r69, rfl, rfl, hv⟩ hGw67 hS
     have hS := hS.n0
     refine WL.move rfl rfl <| WL.extract rfl rfl rfl <| WL.extract rfl rfl rfl <| WL.assign rfl rfl <| WL.assign rfl rfl <| WL.done <| W.seq <| W.region <| WL.move rfl rfl <| WL.eqlD rfl rfl rfl <| WL.move rfl rfl ?_
     by_cases g70 : r68 = (1 : Int)
     ·have hv := hv.1 g70
      rw [decide_eq_true g70]
      refine WL.take rfl <| WL.move rfl rfl <| WL.take rfl <| WL.eqlD rfl rfl rfl <| WL.pick rfl rfl rfl <| WL.assign rfl rfl <| WL.done <| W.ret <| ⟨_, rfl, Fin.nil ?_⟩
      exact ⟨_, hS.ext, (hS.pick [] rfl).rows, News.of (hS.pick [] rfl).rows rfl, ⟨(decide (r69 = (0 : Int))), rfl, rfl, hv⟩⟩
     have hv := hv.2 g70
     rw [decide_eq_false g70]
     refine WL.pass rfl rfl rfl <| WL.pass rfl rfl rfl <| WL.pick rfl rfl rfl <| WL.assign rfl rfl <| WL.done <| W.ret <| ⟨_, rfl, Fin.nil ?_⟩
     exact ⟨_, hS.ext, (hS.pick [] rfl).rows, News.of (hS.pick [] rfl).rows rfl, ⟨false, rfl, rfl, hv⟩⟩
    have hv := hv.2 g35
    rw [decide_eq_false g35]
    refine WL.pass rfl rfl rfl <| WL.pass rfl rfl rfl <| WL.pass rfl rfl rfl <| WL.pass rfl rfl rfl <| WL.pass rfl rfl rfl <| WL.pass rfl rfl rfl <| WL.pass rfl rfl rfl <| WL.pick rfl rfl rfl <| WL.done <| W.condF rfl <| W.skip <| W.seq <| W.region <| WL.move rfl rfl <| SL.lit1 (vs := is ([(1 : Int), (0 : Int), (1 : Int)] : List Int)) hS XU22 XE3 rfl rfl rfl rfl (is_one _) rfl ?_
    intro A72 w73 hS
    refine SL.lit1 (vs := is ([(1 : Int), (1 : Int), (0 : Int)] : List Int)) hS XU22 XE3 rfl rfl rfl rfl (is_one _) rfl ?_
    intro A75 w76 hS
    refine SL.call hS (ok_Inner (GFX.gfr (hS.chunk (i := 2) rfl)) (hS.rd (i := 1) rfl) (hS.rd (i := 0) rfl) hv) XF30 rfl XN30 rfl rfl ?_
    rintro _ _ w78 ⟨r79, r80, rfl, rfl, hv⟩ hGw78 hS
    have hS := hS.n0
    refine WL.move rfl rfl <| WL.extract rfl rfl rfl <| WL.extract rfl rfl rfl <| WL.assign rfl rfl <| WL.assign rfl rfl <| WL.done <| W.seq <| W.region <| WL.move rfl rfl <| WL.eqlD rfl rfl rfl <| WL.move rfl rfl ?_
    by_cases g81 : r79 = (1 : Int)
    ·have hv := hv.1 g81
     rw [decide_eq_true g81]
     refine WL.take rfl <| WL.move rfl rfl <| WL.take rfl <| WL.eqlD rfl rfl rfl <| WL.pick rfl rfl rfl <| WL.assign rfl rfl <| WL.done <| W.ret <| ⟨_, rfl, Fin.nil ?_⟩
     exact ⟨_, hS.ext, (hS.pick [] rfl).rows, News.of (hS.pick [] rfl).rows rfl, ⟨(decide (r80 = (0 : Int))), rfl, rfl, hv⟩⟩
    have hv := hv.2 g81
    rw [decide_eq_false g81]
    refine WL.pass rfl rfl rfl <| WL.pass rfl rfl rfl <| WL.pick rfl rfl rfl <| WL.assign rfl rfl <| WL.done <| W.ret <| ⟨_, rfl, Fin.nil ?_⟩
    exact ⟨_, hS.ext, (hS.pick [] rfl).rows, News.of (hS.pick [] rfl).rows rfl, ⟨false, rfl, rfl, hv⟩⟩
end Go.Proofs.Ytcmfjjbbcfddpaa
set_option linter.unusedVariables false
set_option linter.unusedSimpArgs false
namespace Go.Proofs.Ytcmfjjbbcfddpaa
/-! ### the laws about three words -/
section
variable {P M : Int} {mf : List Int}
theorem law_WordInner {a b c : List Int} (ha : a.length ≤ LB) (hb : b.length ≤ LB) (hc : c.length ≤ LB) : V_LInner P M mf a b c (fun b => b = true) := by
  refine w_open (fun _ => rfl) fun F p m v g K hF => ?_
  have R := hF.ring
  have hq2 := R.q2
  have hp : 0 < p := by have := hF.p2; omega
  have fin : V_Inner F [1, 0, 1] [1, 1, 0] (fun q => match q with | (r68, r69) => ((r68 = (1 : Int)) → ((fun b => b = true) (decide (r69 = (0 : Int))))) ∧ (¬ (r68 = (1 : Int)) → (fun b => b = true) false)) := by
    refine v_Inner K (by simp [LB]) (by simp [LB]) (fun e => absurd rfl e) fun _ => ?_
    have z1 : fadd p m 1 0 = 1 := R.Az (by omega)
    have e3 : fdot p m (dv p v) [1, 0, 1] [1, 1, 0] 3 = 1 := by
      show fadd p m (fadd p m (fadd p m 0 (fmul p m (dv p v) (inE (p ^ m) 1) (inE (p ^ m) 1))) (fmul p m (dv p v) (inE (p ^ m) 0) (inE (p ^ m) 1))) (fmul p m (dv p v) (inE (p ^ m) 1) (inE (p ^ m) 0)) = 1
      rw [inE_1 hq2, inE_0 hq2, R.M1 (by omega), R.M1 (by omega), R.M0 (by omega), R.Ac 0 1, z1, z1, z1]
    have e4 : fdot p m (dv p v) [1, 0, 1] [1, 1, 0] [(1 : Int), 0, 1].length = 1 := e3
    rw [e4]
    exact ⟨fun _ => rfl, fun e => absurd rfl e⟩
  by_cases e1 : a.length = b.length
  · refine v_Inner K ha hb (fun e => absurd e1 e) fun _ => v_rInner hF ha hb (fun e => absurd e1 e) fun _ => ⟨fun e => absurd rfl e, fun _ => ⟨fun e => absurd rfl e, fun _ => v_Inner K hb ha (fun e => absurd e1.symm e) fun _ => ⟨fun e => absurd (by rw [← e1, fdot_comm hF]) e, fun _ => ⟨fun e => absurd rfl e, fun _ => ⟨fun _ => ⟨True, ⟨fun e2 => ?_, fun _ => trivial⟩, fun _ => fin⟩, fun _ => fin⟩⟩⟩⟩⟩
    have e2 : b.length = c.length := by omega
    have hz : (zwf (eadd p m) a b).length = a.length := zwf_len _ _ _
    refine v_wAdd K ha (fun e => absurd e1 e) fun _ => v_Inner K (by rw [hz]; exact ha) hc (fun e => absurd (by omega) e) fun _ => v_Inner K ha hc (fun e => absurd (by omega) e) fun _ => v_Inner K hb hc (fun e => absurd e2 e) fun _ => ?_
    refine ⟨fun e => absurd rfl e, fun _ => ⟨fun e => absurd rfl e, fun _ => ⟨fun e => absurd rfl e, fun _ => ⟨fun e => absurd rfl e, fun _ => v_rAdd hF ⟨fun e => absurd ?_ e, fun _ => trivial⟩⟩⟩⟩⟩
    rw [hz, fdot_add hF _ (Nat.le_refl _), inE_nat (fdot_lt hp _), inE_nat (fdot_lt hp _), ← e1]
  · exact v_Inner K ha hb (fun _ => v_rInner hF ha hb (fun _ => ⟨fun e => absurd rfl e, fun _ => ⟨fun e => absurd rfl e, fun _ => v_Inner K hb ha (fun _ => ⟨fun e => absurd rfl e, fun _ => ⟨fun e => absurd rfl e, fun _ => ⟨fun e => absurd (by omega) e1, fun _ => fin⟩⟩⟩) fun e => absurd e.symm e1⟩⟩) fun e => absurd e e1) fun e => absurd e e1
end
end Go.Proofs.Ytcmfjjbbcfddpaa
