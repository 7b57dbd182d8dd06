/- What only this law leans on. -/
import Derived.Test.YtcmfjjbbcfddpaaWordCleansG7
set_option linter.unusedVariables false
namespace Go.Proofs.Ytcmfjjbbcfddpaa
open Go.RowKit
theorem Try.nm24 : (Try.f24.name == "runtime.NumGoroutine") = false := by kernel_rfl
theorem Try.nm25 : (Try.f25.name == "runtime.NumGoroutine") = false := by kernel_rfl
end Go.Proofs.Ytcmfjjbbcfddpaa
namespace Go.Proofs.Ytcmfjjbbcfddpaa
open Go.RowKit
abbrev XF24 := Try.func24
abbrev XF25 := Try.func25
abbrev XF4 := Try.func4
abbrev XN24 := Try.nm24
abbrev XN25 := Try.nm25
end Go.Proofs.Ytcmfjjbbcfddpaa
set_option linter.unusedSimpArgs false
set_option linter.unusedVariables false
set_option maxRecDepth 4000
set_option maxHeartbeats 4000000
namespace Go.Proofs.Ytcmfjjbbcfddpaa
open Go.RowKit
def V_Distance (Fg : GFv) (a : List Int) (b : List Int) (Q : Int × Int → Prop) : Prop :=
  V_wSub Fg a b (fun q => match q with | (x12, r16) => V_Weight Fg x12 (fun r18 => Q (r18, r16)))
theorem ok_Distance {w : World} {Q : Int × Int → Prop} {Fg : GFv} {a : List Int} {b : List Int} {ag : Addr} {Bg : Nat} (hgg : GFR Bg w ag Fg) {Ba : Nat} {Aa : Option Addr} {na ka : Nat} (ha : Rd Ba w 1 Aa na ka (is a)) {Bb : Nat} {Ab : Option Addr} {nb kb : Nat} (hb : Rd Bb w 1 Ab nb kb (is b)) (hv : V_Distance Fg a b Q) :
    Calls Try.prog 24 #[.pointer (some ag), .slice Aa na ka, .slice Ab nb kb] w fun e w' => ∃ v Qr, e = .returned v ∧ w.grownBy w' none ∧ Rows w.heap.size none w' Qr ∧ News w.heap.size Qr ∧ ∃ (r0 : Int) (r1 : Int), v = .tuple #[.int .i64 r0, .int .i64 r1] ∧ Qr = [] ∧ Q (r0, r1) := by
  have hgg_ := hgg
  obtain ⟨Ag_mod, kg_mod, Ag_exp, kg_exp, Ag_log, kg_log, Ag_above, kg_above, hg_c, hg_mod, hg_exp, hg_log, hg_above⟩ := hgg_
  have hna := ha.ilen
  subst hna
  have hnb := hb.ilen
  subst hnb
  refine calls_swap <| calls_of_W (vs := [.pointer (some ag), .slice Aa a.length ka, .slice Ab b.length kb]) [6, 7] XF24 rfl rfl rfl rfl ?_
  have hS := St.start w
  unfold V_Distance at hv
  refine W.seq <| W.region <| WL.assign rfl rfl <| WL.assign rfl rfl <| WL.done <| W.seq <| W.region <| WL.move rfl rfl <| WL.move rfl rfl <| WL.move rfl rfl <| SL.call hS (ok_wSub (GFR.ext (GFR.norm hgg) hS.ext) (hS.ro ha) (hS.ro hb) hv) XF26 rfl XN26 rfl rfl ?_
  rintro _ _ w11 ⟨x12, r16, A13, k14, rfl, rfl, hv⟩ hGw11 hS
  have hS := hS.n1
  refine WL.move rfl rfl <| WL.extract rfl rfl rfl <| WL.extract rfl rfl rfl <| WL.assign rfl rfl <| WL.assign rfl rfl <| WL.done <| W.seq <| W.region <| WL.move rfl rfl <| WL.move rfl rfl <| SL.call hS (ok_Weight (GFR.ext (GFR.norm hgg) hS.ext) (hS.rd (i := 0) rfl) hv) XF23 rfl XN23 rfl rfl ?_
  rintro _ _ w17 ⟨r18, rfl, rfl, hv⟩ hGw17 hS
  have hS := hS.n0
  refine WL.move rfl rfl <| WL.assign rfl rfl <| WL.assign rfl rfl <| WL.done <| W.ret <| ⟨_, rfl, Fin.nil ?_⟩
  exact ⟨_, hS.ext, (hS.pick [] rfl).rows, News.of (hS.pick [] rfl).rows rfl, ⟨r18, r16, rfl, rfl, hv⟩⟩
end Go.Proofs.Ytcmfjjbbcfddpaa
set_option linter.unusedSimpArgs false
set_option linter.unusedVariables false
set_option maxRecDepth 4000
set_option maxHeartbeats 4000000
namespace Go.Proofs.Ytcmfjjbbcfddpaa
open Go.RowKit
def V_rDistance (Pf : Int) (Mf : Int) (mf : List Int) (a : List Int) (b : List Int) (Q : Int × Int → Prop) : Prop :=
  ((((a.length : Nat) : Int) ≠ ((b.length : Nat) : Int)) → (Q ((0 : Int), (4 : Int)))) ∧ (¬ (((a.length : Nat) : Int) ≠ ((b.length : Nat) : Int)) → (V_rClean Pf Mf mf a (fun x15 => V_rClean Pf Mf mf b (fun x20 => ∃ (I30 : Int → Int → Prop) (μ31 : Int → Int → Nat), I30 (0 : Int) (0 : Int) ∧ ∀ (z28 : Int) (z29 : Int), (I30 z28 z29 → (((z29 < ((x15.length : Nat) : Int)) → (∃ J35 : Int → Prop, ((0 ≤ z29 ∧ z29 < (x15.length : Nat)) ∧ ((0 ≤ z29 ∧ z29 < (x20.length : Nat)) ∧ ((((gi x15 z29) ≠ (gi x20 z29)) → ((I64 (z28 + (1 : Int))) ∧ (J35 (z28 + (1 : Int))))) ∧ (¬ ((gi x15 z29) ≠ (gi x20 z29)) → J35 z28)))) ∧ ∀ (z34 : Int), (J35 z34 → ((I64 (z29 + (1 : Int))) ∧ (I30 z34 (z29 + (1 : Int)) ∧ μ31 z34 (z29 + (1 : Int)) < μ31 z28 z29))))) ∧ (¬ (z29 < ((x15.length : Nat) : Int)) → (Q (z28, (0 : Int))))))))))
theorem ok_rDistance {w : World} {Q : Int × Int → Prop} {Pf : Int} {Mf : Int} {mf : List Int} {a : List Int} {b : List Int} {Bf : Nat} {Af : Option Addr} {nf kf : Nat} (hf : Rd Bf w 1 Af nf kf (is mf)) {Ba : Nat} {Aa : Option Addr} {na ka : Nat} (ha : Rd Ba w 1 Aa na ka (is a)) {Bb : Nat} {Ab : Option Addr} {nb kb : Nat} (hb : Rd Bb w 1 Ab nb kb (is b)) (hv : V_rDistance Pf Mf mf a b Q) :
    Calls Try.prog 25 #[.agg #[.int .i64 Pf, .int .i64 Mf, .slice Af nf kf], .slice Aa na ka, .slice Ab nb kb] w fun e w' => ∃ v Qr, e = .returned v ∧ w.grownBy w' none ∧ Rows w.heap.size none w' Qr ∧ News w.heap.size Qr ∧ ∃ (r0 : Int) (r1 : Int), v = .tuple #[.int .i64 r0, .int .i64 r1] ∧ Qr = [] ∧ Q (r0, r1) := by
  have hnf := hf.ilen
  subst hnf
  have hna := ha.ilen
  subst hna
  have hnb := hb.ilen
  subst hnb
  refine calls_swap <| calls_of_W (vs := [.agg #[.int .i64 Pf, .int .i64 Mf, .slice Af mf.length kf], .slice Aa a.length ka, .slice Ab b.length kb]) [6, 7] XF25 rfl rfl rfl rfl ?_
  have hS := St.start w
  unfold V_rDistance at hv
  refine W.seq <| W.region <| SL.box (z := 3) (cs := [.int .i64 Pf, .int .i64 Mf, .slice Af mf.length kf]) hS rfl rfl rfl rfl ?_
  intro g11 w12 hS
  refine WL.assign rfl rfl <| WL.assign rfl rfl <| WL.done <| W.seq <| W.seq <| W.region <| WL.move rfl rfl <| WL.len XU22 rfl rfl <| WL.move rfl rfl <| WL.len XU22 rfl rfl <| WL.neqD rfl rfl rfl <| WL.done <| W.cond2 rfl (fun c13 => ?_) (fun c13 => ?_)
  ·have hv := hv.1 (of_decide_eq_true c13)
   refine W.seq <| W.region <| WL.assign rfl rfl <| WL.assign rfl rfl <| WL.done <| W.ret <| ⟨_, rfl, Fin.nil ?_⟩
   exact ⟨_, hS.ext, (hS.pick [] rfl).rows, News.of (hS.pick [] rfl).rows rfl, ⟨(0 : Int), (4 : Int), rfl, rfl, hv⟩⟩
  have hv := hv.2 (of_decide_eq_false c13)
  refine W.skip <| W.seq <| W.region <| WL.loadV (cs := [.int .i64 Pf, .int .i64 Mf, .slice Af mf.length kf]) XE24 XG24 rfl rfl (Own.vcells (hS.own (i := 0) rfl)) rfl <| WL.move rfl rfl <| SL.call hS (ok_rClean (hS.ro hf) (hS.ro ha) hv) XF20 rfl XN20 rfl rfl ?_
  rintro _ _ w14 ⟨x15, A16, k17, rfl, rfl, hv⟩ hGw14 hS
  have hS := hS.n1
  refine WL.assign rfl rfl <| WL.done <| W.seq <| W.region <| WL.loadV (cs := [.int .i64 Pf, .int .i64 Mf, .slice Af mf.length kf]) XE24 XG24 rfl rfl (Own.vcells (hS.own (i := 1) rfl)) rfl <| WL.move rfl rfl <| SL.call hS (ok_rClean (hS.ro hf) (hS.ro hb) hv) XF20 rfl XN20 rfl rfl ?_
  rintro _ _ w19 ⟨x20, A21, k22, rfl, rfl, hv⟩ hGw19 hS
  have hS := hS.n1
  refine WL.assign rfl rfl <| WL.done <| W.seq <| W.region <| WL.assign rfl rfl <| WL.done <| W.seq <| W.seq <| W.region <| WL.assign rfl rfl <| WL.done <| W.block ?_
  obtain ⟨I30, μ31, hv, hk53⟩ := hv
  refine W.loop (σ := Int × Int) (fun q w1 => match q with | (z28, z29) => I30 z28 z29 ∧ St TT w none w1 [.row 3 1 A21 x20.length k22 (is x20), .row 3 1 A16 x15.length k17 (is x15), .row 24 3 (some ⟨g11, 0, none⟩) 1 1 [.int .i64 Pf, .int .i64 Mf, .slice Af mf.length kf]]) (fun q => match q with | (z28, z29) => [(6, .int .i64 (0 : Int)), (7, .int .i64 (0 : Int)), (8, .slice A16 x15.length k17), (9, .slice A21 x20.length k22), (10, .int .i64 z28), (11, .int .i64 z29)]) (fun q => match q with | (z28, z29) => μ31 z28 z29) ((0 : Int), (0 : Int)) ⟨hv, hS⟩ ⟨rfl, rfl, rfl, rfl, rfl, rfl, trivial⟩ ?_
  rintro ⟨z28, z29⟩ w32 ⟨hv, hS⟩
  have hv := hk53 z28 z29 hv
  refine W.seq <| W.seq <| W.region <| WL.move rfl rfl <| WL.move rfl rfl <| WL.len XU22 rfl rfl <| WL.lssD rfl rfl rfl <| WL.done <| W.cond2 rfl (fun c33 => ?_) (fun c33 => ?_)
  ·have hv := hv.1 (of_decide_eq_true c33)
   refine W.skip <| W.seq ?_
   obtain ⟨J35, hv, hk52⟩ := hv
   refine W.cutN (σ := Int) (fun z34 w1 => J35 z34 ∧ St TT w none w1 [.row 3 1 A21 x20.length k22 (is x20), .row 3 1 A16 x15.length k17 (is x15), .row 24 3 (some ⟨g11, 0, none⟩) 1 1 [.int .i64 Pf, .int .i64 Mf, .slice Af mf.length kf]]) (fun z34 => [(6, .int .i64 (0 : Int)), (7, .int .i64 (0 : Int)), (8, .slice A16 x15.length k17), (9, .slice A21 x20.length k22), (10, .int .i64 z34), (11, .int .i64 z29), (26, .bool (decide (z29 < ((x15.length : Nat) : Int)))), (37, .bool (decide ((gi x15 z29) ≠ (gi x20 z29))))]) ?_ ?_
   ·refine W.block ?_
    refine W.seq ?_
    obtain ⟨o39, hv⟩ := hv
    obtain ⟨o44, hv⟩ := hv
    refine W.drawV 9 [⟨[], [8], true⟩, ⟨[], [11], true⟩, ⟨[0, 1], [], true⟩, ⟨[2], [], false⟩, ⟨[], [9], true⟩, ⟨[], [11], true⟩, ⟨[4, 5], [], true⟩, ⟨[6], [], false⟩, ⟨[3, 7], [], true⟩] [[(8, .slice A16 x15.length k17)], [(11, .int .i64 z29)], [], [], [(9, .slice A21 x20.length k22)], [(11, .int .i64 z29)], [], [], []] [(29, .slice A16 x15.length k17), (30, .int .i64 z29), (31, .pointer (some ((adOf A16).add z29.toNat))), (32, .int .i64 (gi x15 z29)), (33, .slice A21 x20.length k22), (34, .int .i64 z29), (35, .pointer (some ((adOf A21).add z29.toNat))), (36, .int .i64 (gi x20 z29)), (37, .bool (decide ((gi x15 z29) ≠ (gi x20 z29))))] Try.mixed (by kernel_rfl) rfl rfl ?_ ?_
    · refine ⟨⟨rfl, ⟨rfl, trivial⟩, fun _ _ _ => WL.move rfl rfl <| WL.done ⟨rfl, rfl⟩⟩, ⟨rfl, ⟨rfl, trivial⟩, fun _ _ _ => WL.move rfl rfl <| WL.done ⟨rfl, rfl⟩⟩, ⟨rfl, trivial, fun _ _ _ => SL.index XU22 XE3 (hS.rd (i := 1) rfl) rfl rfl o39 rfl <| WL.done ⟨rfl, rfl⟩⟩, ⟨rfl, trivial, fun _ hE _ => have hS := hS.grow (hE rfl); WL.load XU3 rfl rfl (Rd.gi (hS.rd (i := 1) rfl) o39) rfl <| WL.done ⟨rfl, ext_refl _⟩⟩, ⟨rfl, ⟨rfl, trivial⟩, fun _ _ _ => WL.move rfl rfl <| WL.done ⟨rfl, rfl⟩⟩, ⟨rfl, ⟨rfl, trivial⟩, fun _ _ _ => WL.move rfl rfl <| WL.done ⟨rfl, rfl⟩⟩, ⟨rfl, trivial, fun _ _ _ => SL.index XU22 XE3 (hS.rd (i := 0) rfl) rfl rfl o44 rfl <| WL.done ⟨rfl, rfl⟩⟩, ⟨rfl, trivial, fun _ hE _ => have hS := hS.grow (hE rfl); WL.load XU3 rfl rfl (Rd.gi (hS.rd (i := 0) rfl) o44) rfl <| WL.done ⟨rfl, ext_refl _⟩⟩, ⟨rfl, trivial, fun _ _ _ => WL.neqD rfl rfl rfl <| WL.done ⟨rfl, rfl⟩⟩, trivial⟩
    intro w47 hT
    have hS := hS.grow hT
    refine WA.done (by decide +kernel) <| W.cond2 rfl (fun c48 => ?_) (fun c48 => ?_)
    ·have hv := hv.1 (of_decide_eq_true c48)
     refine W.region <| WL.move rfl rfl ?_
     obtain ⟨o49, hv⟩ := hv
     refine WL.add (r := (z28 + (1 : Int))) rfl rfl (wr o49) rfl <| WL.assign rfl rfl <| WL.done ?_
     exact ⟨(z28 + (1 : Int)), ⟨rfl, rfl, rfl, rfl, rfl, rfl, rfl, rfl, trivial⟩, rfl, hv, hS⟩
    have hv := hv.2 (of_decide_eq_false c48)
    refine W.skip ?_
    exact ⟨z28, ⟨rfl, rfl, rfl, rfl, rfl, rfl, rfl, rfl, trivial⟩, rfl, hv, hS⟩
   rintro z34 w50 ⟨hv, hS⟩
   have hv := hk52 z34 hv
   refine W.region <| WL.move rfl rfl ?_
   obtain ⟨o51, hv⟩ := hv
   refine WL.add (r := (z29 + (1 : Int))) rfl rfl (wr o51) rfl <| WL.assign rfl rfl <| WL.done ?_
   exact ⟨(z34, (z29 + (1 : Int))), ⟨rfl, rfl, rfl, rfl, rfl, rfl, trivial⟩, hv.2, rfl, hv.1, hS⟩
  have hv := hv.2 (of_decide_eq_false c33)
  refine W.exit <| W.seq <| W.region <| WL.move rfl rfl <| WL.assign rfl rfl <| WL.assign rfl rfl <| WL.done <| W.ret <| ⟨_, rfl, Fin.nil ?_⟩
  exact ⟨_, hS.ext, (hS.pick [] rfl).rows, News.of (hS.pick [] rfl).rows rfl, ⟨z28, (0 : Int), rfl, rfl, hv⟩⟩
end Go.Proofs.Ytcmfjjbbcfddpaa
set_option linter.unusedVariables false
set_option linter.unusedSimpArgs false
namespace Go.Proofs.Ytcmfjjbbcfddpaa
theorem cnp_congr {f h : Nat → Bool} : ∀ {k}, (∀ i, i < k → f i = h i) → cnp f k = cnp h k
  | 0, _ => rfl
  | k + 1, e => by rw [cnp_succ, cnp_succ, cnp_congr fun i hi => e i (by omega), e k (by omega)]
section
variable {F : GFv} {p m v g : Nat}
end
section
variable {F : GFv} {p m v g : Nat}
end
/-- where two lists differ -/
def dff (q : Nat) (a b : List Int) (i : Nat) : Bool := decide (inE q (vo a i) ≠ inE q (vo b i))
theorem inE_esub {p m : Nat} (hp : 0 < p) (x y : Int) : inE (p ^ m) (esub p m x y) = fadd p m (inE (p ^ m) x) (fneg p m (inE (p ^ m) y)) := inE_nat (fadd_lt hp _ _)
theorem fsub_zero {p m x y : Nat} (hp : 0 < p) (hx : x < p ^ m) (hy : y < p ^ m) : fadd p m x (fneg p m y) = 0 ↔ x = y := by
  have hn := fneg_lt (m := m) hp y
  constructor
  · intro h
    have e : fadd p m (fadd p m x (fneg p m y)) y = fadd p m 0 y := by rw [h]
    rw [fadd_assoc hp hx hn hy, fadd_comm (fneg p m y) y, fadd_neg hp hy, fadd_zero hp hx, fadd_comm 0 y, fadd_zero hp hy] at e
    exact e
  · rintro rfl; exact fadd_neg hp hx
theorem sub_nz {p m : Nat} (hp : 0 < p) {a b : List Int} (i : Nat) (hi : i < a.length) : nzf (p ^ m) (zwf (esub p m) a b) i = dff (p ^ m) a b i := by
  unfold nzf dff
  have hq : 0 < p ^ m := Nat.pow_pos hp
  rw [zwf_at hi, inE_esub hp]
  exact decide_eq_decide.2 (not_congr (fsub_zero hp (inE_lt hq _) (inE_lt hq _)))
theorem sub_cnp {p m : Nat} (hp : 0 < p) {a b : List Int} : cnp (nzf (p ^ m) (zwf (esub p m) a b)) a.length = cnp (dff (p ^ m) a b) a.length := cnp_congr fun i hi => sub_nz hp i hi
section
variable {F : GFv} {p m v g : Nat}
theorem v_Distance (K : GFk F p m v g) {a b : List Int} {Q : Int × Int → Prop} (hl : a.length ≤ LB) (h0 : a.length ≠ b.length → Q (0, 4)) (h1 : a.length = b.length → Q (((cnp (dff (p ^ m) a b) a.length : Nat) : Int), 0)) : V_Distance F a b Q := by
  have hp := K.fv.p2
  refine v_wSub K hl (fun e => v_Weight K (by simp [LB]) (h0 e)) fun e => v_Weight K (by rw [zwf_len]; exact hl) ?_
  rw [zwf_len, sub_cnp (by omega)]; exact h1 e
end
section
variable {P M : Int} {mf : List Int} {p m v : Nat}
theorem v_rDistance (F : FV P M mf p m v) {a b : List Int} {Q : Int × Int → Prop} (hl : a.length ≤ LB) (h0 : a.length ≠ b.length → Q (0, 4)) (h1 : a.length = b.length → Q (((cnp (dff (p ^ m) a b) a.length : Nat) : Int), 0)) : V_rDistance P M mf a b Q := by
  refine ⟨fun e => h0 (by omega), fun e => ?_⟩
  have e : a.length = b.length := by omega
  refine v_rClean F hl (v_rClean F (e ▸ hl) ?_)
  have hca := cl_len (p ^ m) a
  have hcb := cl_len (p ^ m) b
  unfold LB at hl
  refine ⟨fun d z => ∃ k : Nat, z = k ∧ k ≤ a.length ∧ d = ((cnp (dff (p ^ m) a b) k : Nat) : Int), fun d z => (a.length - z).toNat, ⟨0, rfl, Nat.zero_le _, rfl⟩, ?_⟩
  rintro d _ ⟨k, rfl, hk, rfl⟩
  have hcn := cnp_le (dff (p ^ m) a b) k
  dsimp only
  rw [gi_nat, gi_nat]
  refine ⟨fun hlt => ?_, fun hge => by rw [show k = a.length by omega]; exact h1 e⟩
  rw [cl_at (show k < a.length by omega), cl_at (show k < b.length by omega)]
  refine ⟨fun y => y = ((cnp (dff (p ^ m) a b) (k + 1) : Nat) : Int), ⟨⟨by omega, by omega⟩, ⟨by omega, by omega⟩, fun c => ⟨⟨by omega, by omega⟩, ?_⟩, fun c => ?_⟩, ?_⟩
  · rw [cnp_succ, if_pos (show dff (p ^ m) a b k = true from decide_eq_true (by omega))]; push_cast; rfl
  · rw [cnp_succ, if_neg (show ¬ dff (p ^ m) a b k = true by unfold dff; rw [decide_eq_true_iff]; omega)]; rfl
  · rintro y rfl
    exact ⟨⟨by omega, by omega⟩, ⟨k + 1, by push_cast; rfl, by omega, rfl⟩, by omega⟩
end
end Go.Proofs.Ytcmfjjbbcfddpaa
set_option linter.unusedSimpArgs false
set_option linter.unusedVariables false
set_option maxRecDepth 4000
set_option maxHeartbeats 4000000
namespace Go.Proofs.Ytcmfjjbbcfddpaa
open Go.RowKit
def V_LMeasures (Pf : Int) (Mf : Int) (mf : List Int) (a : List Int) (b : List Int) (Q : Bool → Prop) : Prop :=
  V_open Pf Mf mf (fun q => match q with | (none, r15) => Q r15 | (some F16, _) => V_Distance F16 a b (fun q => match q with | (r23, r24) => V_rDistance Pf Mf mf a b (fun q => match q with | (r26, r27) => ((r23 ≠ r26) → Q false) ∧ (¬ (r23 ≠ r26) → (((r24 ≠ r27) → Q false) ∧ (¬ (r24 ≠ r27) → (V_wSub F16 a b (fun q => match q with | (x31, r35) => ((r35 ≠ r27) → Q false) ∧ (¬ (r35 ≠ r27) → (((r27 = (0 : Int)) → (V_Weight F16 x31 (fun r39 => ((r39 ≠ r23) → Q false) ∧ (¬ (r39 ≠ r23) → (V_Distance F16 ([(1 : Int), (0 : Int), (1 : Int)] : List Int) ([(0 : Int), (0 : Int), (1 : Int)] : List Int) (fun q => match q with | (r48, r49) => ((r48 = (1 : Int)) → (Q (decide (r49 = (0 : Int))))) ∧ (¬ (r48 = (1 : Int)) → Q false))))))) ∧ (¬ (r27 = (0 : Int)) → (V_Distance F16 ([(1 : Int), (0 : Int), (1 : Int)] : List Int) ([(0 : Int), (0 : Int), (1 : Int)] : List Int) (fun q => match q with | (r58, r59) => ((r58 = (1 : Int)) → (Q (decide (r59 = (0 : Int))))) ∧ (¬ (r58 = (1 : Int)) → Q false))))))))))))))
theorem ok_LMeasures {w : World} {Q : Bool → Prop} {Pf : Int} {Mf : Int} {mf : List Int} {a : List Int} {b : List Int} {Bf : Nat} {Af : Option Addr} {nf kf : Nat} (hf : Rd Bf w 1 Af nf kf (is mf)) {Ba : Nat} {Aa : Option Addr} {na ka : Nat} (ha : Rd Ba w 1 Aa na ka (is a)) {Bb : Nat} {Ab : Option Addr} {nb kb : Nat} (hb : Rd Bb w 1 Ab nb kb (is b)) (hv : V_LMeasures Pf Mf mf a b Q) :
    Calls Try.prog 4 #[.agg #[.int .i64 Pf, .int .i64 Mf, .slice Af nf kf], .slice Aa na ka, .slice Ab nb kb] w fun e w' => ∃ v Qr, e = .returned v ∧ w.grownBy w' none ∧ Rows w.heap.size none w' Qr ∧ News w.heap.size Qr ∧ ∃ (r0 : Bool), v = .bool r0 ∧ Qr = [] ∧ Q r0 := by
  have hnf := hf.ilen
  subst hnf
  have hna := ha.ilen
  subst hna
  have hnb := hb.ilen
  subst hnb
  refine calls_swap <| calls_of_W (vs := [.agg #[.int .i64 Pf, .int .i64 Mf, .slice Af mf.length kf], .slice Aa a.length ka, .slice Ab b.length kb]) [6] XF4 rfl rfl rfl rfl ?_
  have hS := St.start w
  unfold V_LMeasures at hv
  refine W.seq <| W.region <| SL.box (z := 3) (cs := [.int .i64 Pf, .int .i64 Mf, .slice Af mf.length kf]) hS rfl rfl rfl rfl ?_
  intro g11 w12 hS
  refine WL.assign rfl rfl <| WL.done <| W.seq <| W.region <| WL.loadV (cs := [.int .i64 Pf, .int .i64 Mf, .slice Af mf.length kf]) XE24 XG24 rfl rfl (Own.vcells (hS.own (i := 0) rfl)) rfl <| SL.call hS (ok_open (hS.ro hf) hv) XF17 rfl XN17 rfl rfl ?_
  rintro _ _ w14 ⟨o, r15, hv, hK⟩ hGw14 hS
  cases o with
  | none =>
    obtain ⟨rfl, rfl⟩ := hK
    change St _ _ _ _ [.row 24 3 (some ⟨g11, 0, none⟩) 1 1 [.int .i64 Pf, .int .i64 Mf, .slice Af mf.length kf]] at hS
    refine WL.move rfl rfl <| WL.extract rfl rfl rfl <| WL.extract rfl rfl rfl <| WL.extract rfl rfl rfl <| WL.assign rfl rfl <| WL.assign rfl rfl <| WL.assign rfl rfl <| WL.done <| W.seq <| W.seq <| W.region <| WL.move rfl rfl <| WL.done <| W.condT rfl <| W.seq <| W.region <| WL.move rfl rfl <| WL.assign rfl rfl <| WL.done <| W.ret <| ⟨_, rfl, Fin.nil ?_⟩
    exact ⟨_, hS.ext, (hS.pick [] rfl).rows, News.of (hS.pick [] rfl).rows rfl, ⟨r15, rfl, rfl, hv⟩⟩
  | some F16 =>
    obtain ⟨ad17, lo18, hi19, rfl, rfl⟩ := hK
    change St _ _ _ _ [.ch lo18 hi19 (fun wz => GFX lo18 hi19 wz ad17 F16), .row 24 3 (some ⟨g11, 0, none⟩) 1 1 [.int .i64 Pf, .int .i64 Mf, .slice Af mf.length kf]] at hS
    refine WL.move rfl rfl <| WL.extract rfl rfl rfl <| WL.extract rfl rfl rfl <| WL.extract rfl rfl rfl <| WL.assign rfl rfl <| WL.assign rfl rfl <| WL.assign rfl rfl <| WL.done <| W.seq <| W.seq <| W.region <| WL.move rfl rfl <| WL.done <| W.condF rfl <| W.skip <| W.seq <| W.region <| WL.move rfl rfl <| WL.move rfl rfl <| WL.move rfl rfl <| SL.call hS (ok_Distance (GFX.gfr (hS.chunk (i := 0) rfl)) (hS.ro ha) (hS.ro hb) hv) XF24 rfl XN24 rfl rfl ?_
    rintro _ _ w22 ⟨r23, r24, rfl, rfl, hv⟩ hGw22 hS
    have hS := hS.n0
    refine WL.move rfl rfl <| WL.extract rfl rfl rfl <| WL.extract rfl rfl rfl <| WL.assign rfl rfl <| WL.assign rfl rfl <| WL.done <| W.seq <| W.region <| WL.loadV (cs := [.int .i64 Pf, .int .i64 Mf, .slice Af mf.length kf]) XE24 XG24 rfl rfl (Own.vcells (hS.own (i := 1) rfl)) rfl <| WL.move rfl rfl <| WL.move rfl rfl <| SL.call hS (ok_rDistance (hS.ro hf) (hS.ro ha) (hS.ro hb) hv) XF25 rfl XN25 rfl rfl ?_
    rintro _ _ w25 ⟨r26, r27, rfl, rfl, hv⟩ hGw25 hS
    have hS := hS.n0
    refine WL.move rfl rfl <| WL.extract rfl rfl rfl <| WL.extract rfl rfl rfl <| WL.assign rfl rfl <| WL.assign rfl rfl <| WL.done <| W.seq <| W.seq <| W.region <| WL.move rfl rfl <| WL.move rfl rfl <| WL.neqD rfl rfl rfl <| WL.move rfl rfl ?_
    by_cases g28 : r23 ≠ r26
    ·have hv := hv.1 g28
     rw [decide_eq_true g28]
     refine WL.pass rfl rfl rfl <| WL.pass rfl rfl rfl <| WL.pass rfl rfl rfl <| WL.pick rfl rfl rfl <| WL.done <| W.condT rfl <| W.seq <| W.region <| WL.assign rfl rfl <| WL.done <| W.ret <| ⟨_, rfl, Fin.nil ?_⟩
     exact ⟨_, hS.ext, (hS.pick [] rfl).rows, News.of (hS.pick [] rfl).rows rfl, ⟨false, rfl, rfl, hv⟩⟩
    have hv := hv.2 g28
    rw [decide_eq_false g28]
    refine WL.take rfl <| WL.move rfl rfl <| WL.take rfl <| WL.move rfl rfl <| WL.take rfl <| WL.neqD rfl rfl rfl <| WL.pick rfl rfl rfl <| WL.done <| W.cond2 rfl (fun c29 => ?_) (fun c29 => ?_)
    ·have hv := hv.1 (of_decide_eq_true c29)
     refine W.seq <| W.region <| WL.assign rfl rfl <| WL.done <| W.ret <| ⟨_, rfl, Fin.nil ?_⟩
     exact ⟨_, hS.ext, (hS.pick [] rfl).rows, News.of (hS.pick [] rfl).rows rfl, ⟨false, rfl, rfl, hv⟩⟩
    have hv := hv.2 (of_decide_eq_false c29)
    refine W.skip <| W.seq <| W.region <| WL.move rfl rfl <| WL.move rfl rfl <| WL.move rfl rfl <| SL.call hS (ok_wSub (GFX.gfr (hS.chunk (i := 0) rfl)) (hS.ro ha) (hS.ro hb) hv) XF26 rfl XN26 rfl rfl ?_
    rintro _ _ w30 ⟨x31, r35, A32, k33, rfl, rfl, hv⟩ hGw30 hS
    have hS := hS.n1
    refine WL.move rfl rfl <| WL.extract rfl rfl rfl <| WL.extract rfl rfl rfl <| WL.assign rfl rfl <| WL.assign rfl rfl <| WL.done <| W.seq <| W.seq <| W.region <| WL.move rfl rfl <| WL.move rfl rfl <| WL.neqD rfl rfl rfl <| WL.done <| W.cond2 rfl (fun c36 => ?_) (fun c36 => ?_)
    ·have hv := hv.1 (of_decide_eq_true c36)
     refine W.seq <| W.region <| WL.assign rfl rfl <| WL.done <| W.ret <| ⟨_, rfl, Fin.nil ?_⟩
     exact ⟨_, hS.ext, (hS.pick [] rfl).rows, News.of (hS.pick [] rfl).rows rfl, ⟨false, rfl, rfl, hv⟩⟩
    have hv := hv.2 (of_decide_eq_false c36)
    refine W.skip <| W.seq <| W.seq <| W.region <| WL.move rfl rfl <| WL.eqlD rfl rfl rfl <| WL.move rfl rfl ?_
    by_cases g37 : r27 = (0 : Int)
    ·have hv := hv.1 g37
     rw [decide_eq_true g37]
     refine WL.take rfl <| WL.move rfl rfl <| WL.take rfl <| WL.move rfl rfl <| WL.take rfl <| SL.call hS (ok_Weight (GFX.gfr (hS.chunk (i := 1) rfl)) (hS.rd (i := 0) rfl) hv) XF23 rfl XN23 rfl rfl ?_
     rintro _ _ w38 ⟨r39, rfl, rfl, hv⟩ hGw38 hS
     have hS := hS.n0
     refine WL.take rfl <| WL.move rfl rfl <| WL.take rfl <| WL.neqD rfl rfl rfl <| WL.pick rfl rfl rfl <| WL.done <| W.cond2 rfl (fun c40 => ?_) (fun c40 => ?_)
     ·have hv := hv.1 (of_decide_eq_true c40)
      refine W.seq <| W.region <| WL.assign rfl rfl <| WL.done <| W.ret <| ⟨_, rfl, Fin.nil ?_⟩
      exact ⟨_, hS.ext, (hS.pick [] rfl).rows, News.of (hS.pick [] rfl).rows rfl, ⟨false, rfl, rfl, hv⟩⟩
     have hv := hv.2 (of_decide_eq_false c40)
     refine W.skip <| W.seq <| W.region <| WL.move rfl rfl <| SL.lit1 (vs := is ([(1 : Int), (0 : Int), (1 : Int)] : List Int)) hS XU22 XE3 rfl rfl rfl rfl (is_one _) rfl ?_
     intro A41 w42 hS
     refine SL.lit1 (vs := is ([(0 : Int), (0 : Int), (1 : Int)] : List Int)) hS XU22 XE3 rfl rfl rfl rfl (is_one _) rfl ?_
     intro A44 w45 hS
     refine SL.call hS (ok_Distance (GFX.gfr (hS.chunk (i := 3) rfl)) (hS.rd (i := 1) rfl) (hS.rd (i := 0) rfl) hv) XF24 rfl XN24 rfl rfl ?_
     rintro _ _ w47 ⟨r48, r49, rfl, rfl, hv⟩ hGw47 hS
     have hS := hS.n0
     refine WL.move rfl rfl <| WL.extract rfl rfl rfl <| WL.extract rfl rfl rfl <| WL.assign rfl rfl <| WL.assign rfl rfl <| WL.done <| W.seq <| W.region <| WL.move rfl rfl <| WL.eqlD rfl rfl rfl <| WL.move rfl rfl ?_
     by_cases g50 : r48 = (1 : Int)
     ·have hv := hv.1 g50
      rw [decide_eq_true g50]
      refine WL.take rfl <| WL.move rfl rfl <| WL.take rfl <| WL.eqlD rfl rfl rfl <| WL.pick rfl rfl rfl <| WL.assign rfl rfl <| WL.done <| W.ret <| ⟨_, rfl, Fin.nil ?_⟩
      exact ⟨_, hS.ext, (hS.pick [] rfl).rows, News.of (hS.pick [] rfl).rows rfl, ⟨(decide (r49 = (0 : Int))), rfl, rfl, hv⟩⟩
     have hv := hv.2 g50
     rw [decide_eq_false g50]
     refine WL.pass rfl rfl rfl <| WL.pass rfl rfl rfl <| WL.pick rfl rfl rfl <| WL.assign rfl rfl <| WL.done <| W.ret <| ⟨_, rfl, Fin.nil ?_⟩
     exact ⟨_, hS.ext, (hS.pick [] rfl).rows, News.of (hS.pick [] rfl).rows rfl, ⟨false, rfl, rfl, hv⟩⟩
    have hv := hv.2 g37
    rw [decide_eq_false g37]
    refine WL.pass rfl rfl rfl <| WL.pass rfl rfl rfl <| WL.pass rfl rfl rfl <| WL.pass rfl rfl rfl <| WL.pass rfl rfl rfl <| WL.pick rfl rfl rfl <| WL.done <| W.condF rfl <| W.skip <| W.seq <| W.region <| WL.move rfl rfl <| SL.lit1 (vs := is ([(1 : Int), (0 : Int), (1 : Int)] : List Int)) hS XU22 XE3 rfl rfl rfl rfl (is_one _) rfl ?_
    intro A51 w52 hS
    refine SL.lit1 (vs := is ([(0 : Int), (0 : Int), (1 : Int)] : List Int)) hS XU22 XE3 rfl rfl rfl rfl (is_one _) rfl ?_
    intro A54 w55 hS
    refine SL.call hS (ok_Distance (GFX.gfr (hS.chunk (i := 3) rfl)) (hS.rd (i := 1) rfl) (hS.rd (i := 0) rfl) hv) XF24 rfl XN24 rfl rfl ?_
    rintro _ _ w57 ⟨r58, r59, rfl, rfl, hv⟩ hGw57 hS
    have hS := hS.n0
    refine WL.move rfl rfl <| WL.extract rfl rfl rfl <| WL.extract rfl rfl rfl <| WL.assign rfl rfl <| WL.assign rfl rfl <| WL.done <| W.seq <| W.region <| WL.move rfl rfl <| WL.eqlD rfl rfl rfl <| WL.move rfl rfl ?_
    by_cases g60 : r58 = (1 : Int)
    ·have hv := hv.1 g60
     rw [decide_eq_true g60]
     refine WL.take rfl <| WL.move rfl rfl <| WL.take rfl <| WL.eqlD rfl rfl rfl <| WL.pick rfl rfl rfl <| WL.assign rfl rfl <| WL.done <| W.ret <| ⟨_, rfl, Fin.nil ?_⟩
     exact ⟨_, hS.ext, (hS.pick [] rfl).rows, News.of (hS.pick [] rfl).rows rfl, ⟨(decide (r59 = (0 : Int))), rfl, rfl, hv⟩⟩
    have hv := hv.2 g60
    rw [decide_eq_false g60]
    refine WL.pass rfl rfl rfl <| WL.pass rfl rfl rfl <| WL.pick rfl rfl rfl <| WL.assign rfl rfl <| WL.done <| W.ret <| ⟨_, rfl, Fin.nil ?_⟩
    exact ⟨_, hS.ext, (hS.pick [] rfl).rows, News.of (hS.pick [] rfl).rows rfl, ⟨false, rfl, rfl, hv⟩⟩
end Go.Proofs.Ytcmfjjbbcfddpaa
set_option linter.unusedVariables false
set_option linter.unusedSimpArgs false
namespace Go.Proofs.Ytcmfjjbbcfddpaa
section
variable {P M : Int} {mf : List Int}
theorem dist_ex {q : Nat} (hq : 2 ≤ q) : cnp (dff q [1, 0, 1] [0, 0, 1]) 3 = 1 := by
  have a0 : dff q [1, 0, 1] [0, 0, 1] 0 = true := decide_eq_true (by show inE q 1 ≠ inE q 0; rw [inE_1 hq, inE_0 hq]; decide)
  have a1 : dff q [1, 0, 1] [0, 0, 1] 1 = false := decide_eq_false (fun h => h rfl)
  have a2 : dff q [1, 0, 1] [0, 0, 1] 2 = false := decide_eq_false (fun h => h rfl)
  rw [cnp_succ, cnp_succ, cnp_succ, a0, a1, a2]; rfl
theorem w_distEx {F : GFv} {p m v g : Nat} (K : GFk F p m v g) {Q : Int × Int → Prop} (h : Q (1, 0)) : V_Distance F [1, 0, 1] [0, 0, 1] Q := by
  refine v_Distance K (by simp [LB]) (fun e => absurd rfl e) fun _ => ?_
  rw [show cnp (dff (p ^ m) [1, 0, 1] [0, 0, 1]) [(1 : Int), 0, 1].length = 1 from dist_ex K.fv.ring.q2]
  exact h
theorem law_WordMeasures {a b : List Int} (ha : a.length ≤ LB) (hb : b.length ≤ LB) : V_LMeasures P M mf a b (fun b => b = true) := by
  refine w_open (fun _ => rfl) fun F p m v g K hF => ?_
  have hp : 0 < p := by have := hF.p2; omega
  by_cases e : a.length = b.length
  · refine v_Distance K ha (fun c => absurd e c) fun _ => v_rDistance hF ha (fun c => absurd e c) fun _ => ⟨fun c => absurd rfl c, fun _ => ⟨fun c => absurd rfl c, fun _ => v_wSub K ha (fun c => absurd e c) fun _ => ⟨fun c => absurd rfl c, fun _ => ⟨fun _ => v_Weight K (by rw [zwf_len]; exact ha) ?_, fun c => absurd rfl c⟩⟩⟩⟩
    rw [zwf_len, sub_cnp hp]
    exact ⟨fun c => absurd rfl c, fun _ => w_distEx K ⟨fun _ => rfl, fun c => absurd rfl c⟩⟩
  · exact v_Distance K ha (fun _ => v_rDistance hF ha (fun _ => ⟨fun c => absurd rfl c, fun _ => ⟨fun c => absurd rfl c, fun _ => v_wSub K ha (fun _ => ⟨fun c => absurd rfl c, fun _ => ⟨fun c => absurd c (by decide), fun _ => w_distEx K ⟨fun _ => rfl, fun c => absurd rfl c⟩⟩⟩) fun c => absurd c e⟩⟩) fun c => absurd c e) fun c => absurd c e
end
end Go.Proofs.Ytcmfjjbbcfddpaa
