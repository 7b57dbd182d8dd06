/- What only this law leans on. -/
import Derived.Test.YtcmfjjbbcfddpaaWordAddsG6
namespace Go.Proofs.Ytcmfjjbbcfddpaa
open Go.RowKit

section
variable {P : Program} {n : Nat} {ro : Option Nat} {df : List Deferred} {N : Post} {L : Fr} {w : World} {ops : Array Oper} {rest : List Oper}
variable {d : Nat} {ty : TypeId} {pos : String} {af : Array Edge}

theorem run_equalIn_bool {P : Program} {w : World} {t : TypeId} (ht : P.underlying t = some .bool) (k : Nat) (a b : Bool) : (Op.equalIn (k + 1) t (.bool a) (.bool b)).run P w = .ok (a == b) w := by
  rw [Op.equalIn]
  simp [run_underlying ht]
theorem run_equal_bool {P : Program} {w : World} {t : TypeId} (ht : P.underlying t = some .bool) (a b : Bool) : (Op.equal t (.bool a) (.bool b)).run P w = .ok (a == b) w := run_equalIn_bool ht 9999 a b
theorem WL.neqB {x y : Operand} {a b r : Bool} {tx tb : TypeId} (hx : ev L x = some (.bool a)) (hy : ev L y = some (.bool b)) (ht : P.underlying tx = some .bool) (hr : (a != b) = r) (hn : Nat.blt d n = true) (h : WL P n ro df ops rest N ((d, .bool r) :: L) w) :
    WL P n ro df ops (⟨some d, .binOp .neq tx x y tb, ty, pos, af, none⟩ :: rest) N L w :=
  WL.val rfl rfl hn (fun _ ha => by subst hr; cases a <;> cases b <;> simp [execOp, eqGuard, binOp, ha.ev hx, ha.ev hy, run_equal_bool ht]) h
end
end Go.Proofs.Ytcmfjjbbcfddpaa
set_option linter.unusedVariables false
namespace Go.Proofs.Ytcmfjjbbcfddpaa
open Go.RowKit
theorem Try.nm21 : (Try.f21.name == "runtime.NumGoroutine") = false := by kernel_rfl
theorem Try.nm23 : (Try.f23.name == "runtime.NumGoroutine") = false := by kernel_rfl
theorem Try.nm24 : (Try.f24.name == "runtime.NumGoroutine") = false := by kernel_rfl
end Go.Proofs.Ytcmfjjbbcfddpaa
namespace Go.Proofs.Ytcmfjjbbcfddpaa
open Go.RowKit
abbrev XF21 := Try.func21
abbrev XF23 := Try.func23
abbrev XF24 := Try.func24
abbrev XF5 := Try.func5
abbrev XN21 := Try.nm21
abbrev XN23 := Try.nm23
abbrev XN24 := Try.nm24
end Go.Proofs.Ytcmfjjbbcfddpaa
set_option linter.unusedSimpArgs false
set_option linter.unusedVariables false
set_option maxRecDepth 4000
set_option maxHeartbeats 4000000
namespace Go.Proofs.Ytcmfjjbbcfddpaa
open Go.RowKit
def V_Support (Fg : GFv) (l : List Int) (Q : List Int → Prop) : Prop :=
  ∃ (I26 : List Int → Int → Prop) (μ27 : List Int → Int → Nat), I26 ([] : List Int) (0 : Int) ∧ ∀ (x21 : List Int) (z25 : Int), (I26 x21 z25 → (((z25 < ((l.length : Nat) : Int)) → (∃ J34 : List Int → Bool → Prop, ((0 ≤ z25 ∧ z25 < (l.length : Nat)) ∧ ((((gi l z25) ≠ (0 : Int)) → (V_Is Fg (gi l z25) (fun r38 => ((r38 = true) → ((((x21.length : Nat) + (1 : Nat) : Int) * 8 ≤ 140737488355328) ∧ (J34 (x21 ++ ([z25] : List Int)) r38))) ∧ (r38 = false → J34 x21 r38)))) ∧ (¬ ((gi l z25) ≠ (0 : Int)) → J34 x21 false))) ∧ ∀ (x30 : List Int) (b33 : Bool), (J34 x30 b33 → ((I64 (z25 + (1 : Int))) ∧ (I26 x30 (z25 + (1 : Int)) ∧ μ27 x30 (z25 + (1 : Int)) < μ27 x21 z25))))) ∧ (¬ (z25 < ((l.length : Nat) : Int)) → Q x21)))
theorem ok_Support {w : World} {Q : List Int → Prop} {Fg : GFv} {l : List Int} {ag : Addr} {Bg : Nat} (hgg : GFR Bg w ag Fg) {Bl : Nat} {Al : Option Addr} {nl kl : Nat} (hl : Rd Bl w 1 Al nl kl (is l)) (hv : V_Support Fg l Q) :
    Calls Try.prog 21 #[.pointer (some ag), .slice Al nl kl] w fun e w' => ∃ v Qr, e = .returned v ∧ w.grownBy w' none ∧ Rows w.heap.size none w' Qr ∧ News w.heap.size Qr ∧ ∃ (r0 : List Int) (Ar0 : Option Addr) (cr0 : Nat), v = .slice Ar0 r0.length cr0 ∧ Qr = [.row 3 1 Ar0 r0.length cr0 (is r0)] ∧ Q r0 := by
  have hgg_ := hgg
  obtain ⟨Ag_mod, kg_mod, Ag_exp, kg_exp, Ag_log, kg_log, Ag_above, kg_above, hg_c, hg_mod, hg_exp, hg_log, hg_above⟩ := hgg_
  have hnl := hl.ilen
  subst hnl
  refine calls_swap <| calls_of_W (vs := [.pointer (some ag), .slice Al l.length kl]) [4] XF21 rfl rfl rfl rfl ?_
  have hS := St.start w
  unfold V_Support at hv
  refine W.seq <| W.region <| WL.assign rfl rfl <| WL.done <| W.seq <| W.region <| WL.assign rfl rfl <| WL.done <| W.seq <| W.seq <| W.region <| WL.move rfl rfl <| WL.len XU22 rfl rfl <| WL.move rfl rfl <| WL.done <| W.block ?_
  obtain ⟨I26, μ27, hv, hk50⟩ := hv
  have hS := hS.nil (e := 3) (z := 1)
  have hm0 : 0 = ([] : List Int).length := (hS.rd (i := 0) rfl).ilen.symm
  have hS := hS.relen (i := 0) rfl hm0
  change St _ _ _ _ [.row 3 1 none ([] : List Int).length 0 (is ([] : List Int))] at hS
  refine W.loop (σ := List Int × Int × Option Addr × Nat) (fun q w1 => match q with | (x21, z25, A22, k23) => I26 x21 z25 ∧ St TT w none w1 [.row 3 1 A22 x21.length k23 (is x21)]) (fun q => match q with | (x21, z25, A22, k23) => [(0, .pointer (some ag)), (4, .slice none 0 0), (5, .slice A22 x21.length k23), (8, .slice Al l.length kl), (9, .int .i64 ((l.length : Nat) : Int)), (10, .int .i64 z25)]) (fun q => match q with | (x21, z25, A22, k23) => μ27 x21 z25) (([] : List Int), (0 : Int), none, 0) ⟨hv, hS⟩ ⟨rfl, rfl, (sm (by first | rfl | assumption | omega)), rfl, rfl, rfl, trivial⟩ ?_
  rintro ⟨x21, z25, A22, k23⟩ w28 ⟨hv, hS⟩
  have hv := hk50 x21 z25 hv
  refine W.seq <| W.region <| WL.lssD rfl rfl rfl <| WL.done <| W.seq <| W.cond2 rfl (fun c29 => ?_) (fun c29 => ?_)
  ·have hv := hv.1 (of_decide_eq_true c29)
   refine W.skip <| W.seq ?_
   obtain ⟨J34, hv, hk49⟩ := hv
   refine W.cutN (σ := List Int × Bool × Option Addr × Nat) (fun q w1 => match q with | (x30, b33, A31, k32) => J34 x30 b33 ∧ St TT w none w1 [.row 3 1 A31 x30.length k32 (is x30)]) (fun q => match q with | (x30, b33, A31, k32) => [(0, .pointer (some ag)), (4, .slice none 0 0), (5, .slice A31 x30.length k32), (6, .int .i64 z25), (7, .int .i64 (gi l z25)), (8, .slice Al l.length kl), (9, .int .i64 ((l.length : Nat) : Int)), (10, .int .i64 z25), (11, .bool (decide (z25 < ((l.length : Nat) : Int)))), (21, .bool b33)]) ?_ ?_
   ·refine W.block ?_
    refine W.seq <| W.region <| WL.move rfl rfl ?_
    obtain ⟨o35, hv⟩ := hv
    refine SL.index XU22 XE3 (hS.ro hl) rfl rfl o35 rfl <| WL.load XU3 rfl rfl (Rd.gi (hS.ro hl) o35) rfl <| WL.assign rfl rfl <| WL.assign rfl rfl <| WL.done <| W.seq <| W.region <| WL.move rfl rfl <| WL.neqD rfl rfl rfl <| WL.move rfl rfl ?_
    by_cases g36 : (gi l z25) ≠ (0 : Int)
    ·have hv := hv.1 g36
     rw [decide_eq_true g36]
     refine WL.take rfl <| WL.move rfl rfl <| WL.take rfl <| WL.move rfl rfl <| WL.take rfl <| SL.call hS (ok_Is (GFR.ext (GFR.norm hgg) hS.ext) hv) XF56 rfl XN56 rfl rfl ?_
     rintro _ _ w37 ⟨r38, rfl, rfl, hv⟩ hGw37 hS
     have hS := hS.n0
     refine WL.pick rfl rfl rfl <| WL.done <| W.cond2 rfl (fun c39 => ?_) (fun c39 => ?_)
     ·have hv := hv.1 (c39)
      refine W.region <| WL.move rfl rfl <| WL.move rfl rfl <| SL.lit1 (vs := is ([z25] : List Int)) hS XU22 XE3 rfl rfl rfl rfl (is_one _) rfl ?_
      intro A40 w41 hS
      obtain ⟨o43, hv⟩ := hv
      refine SL.append (cs := is x21) (cs' := is ([z25] : List Int)) 1 ((x21 ++ ([z25] : List Int)).length) (is (x21 ++ ([z25] : List Int))) hS rfl XU22 XE3 (hS.rd (i := 0) rfl) (is_one _) rfl rfl (apk o43).1 (apk o43).2 (is_ap (hS.rd (i := 1) rfl) (hS.rd (i := 0) rfl)) (is_append _ _) rfl ?_
      intro A44 k45 w46 hS
      refine WL.assign rfl rfl <| WL.done ?_
      have hS := hS.pick [1] rfl
      exact ⟨(x21 ++ ([z25] : List Int), r38, A44, k45), ⟨rfl, rfl, rfl, rfl, rfl, rfl, rfl, rfl, rfl, rfl, trivial⟩, rfl, hv, hS⟩
     have hv := hv.2 (c39)
     refine W.skip ?_
     exact ⟨(x21, r38, A22, k23), ⟨rfl, rfl, rfl, rfl, rfl, rfl, rfl, rfl, rfl, rfl, trivial⟩, rfl, hv, hS⟩
    have hv := hv.2 g36
    rw [decide_eq_false g36]
    refine WL.pass rfl rfl rfl <| WL.pass rfl rfl rfl <| WL.pass rfl rfl rfl <| WL.pick rfl rfl rfl <| WL.done <| W.condF rfl <| W.skip ?_
    exact ⟨(x21, false, A22, k23), ⟨rfl, rfl, rfl, rfl, rfl, rfl, rfl, rfl, rfl, rfl, trivial⟩, rfl, hv, hS⟩
   rintro ⟨x30, b33, A31, k32⟩ w47 ⟨hv, hS⟩
   have hv := hk49 x30 b33 hv
   refine W.region ?_
   obtain ⟨o48, hv⟩ := hv
   refine WL.add (r := (z25 + (1 : Int))) rfl rfl (wr o48) rfl <| WL.move rfl rfl <| WL.done ?_
   exact ⟨(x30, (z25 + (1 : Int)), A31, k32), ⟨rfl, rfl, rfl, rfl, rfl, rfl, trivial⟩, hv.2, rfl, hv.1, hS⟩
  have hv := hv.2 (of_decide_eq_false c29)
  refine W.exit <| W.seq <| W.region <| WL.move rfl rfl <| WL.assign rfl rfl <| WL.done <| W.ret <| ⟨_, rfl, Fin.nil ?_⟩
  exact ⟨_, hS.ext, (hS.pick [0] rfl).rows, News.of (hS.pick [0] rfl).rows rfl, ⟨x21, A22, k23, rfl, rfl, hv⟩⟩
def V_Weight (Fg : GFv) (l : List Int) (Q : Int → Prop) : Prop :=
  V_Support Fg l (fun x12 => Q ((x12.length : Nat) : Int))
theorem ok_Weight {w : World} {Q : Int → Prop} {Fg : GFv} {l : List Int} {ag : Addr} {Bg : Nat} (hgg : GFR Bg w ag Fg) {Bl : Nat} {Al : Option Addr} {nl kl : Nat} (hl : Rd Bl w 1 Al nl kl (is l)) (hv : V_Weight Fg l Q) :
    Calls Try.prog 23 #[.pointer (some ag), .slice Al nl kl] w fun e w' => ∃ v Qr, e = .returned v ∧ w.grownBy w' none ∧ Rows w.heap.size none w' Qr ∧ News w.heap.size Qr ∧ ∃ (r0 : Int), v = .int .i64 r0 ∧ Qr = [] ∧ Q r0 := by
  have hgg_ := hgg
  obtain ⟨Ag_mod, kg_mod, Ag_exp, kg_exp, Ag_log, kg_log, Ag_above, kg_above, hg_c, hg_mod, hg_exp, hg_log, hg_above⟩ := hgg_
  have hnl := hl.ilen
  subst hnl
  refine calls_swap <| calls_of_W (vs := [.pointer (some ag), .slice Al l.length kl]) [4] XF23 rfl rfl rfl rfl ?_
  have hS := St.start w
  unfold V_Weight at hv
  refine W.seq <| W.region <| WL.assign rfl rfl <| WL.done <| W.seq <| W.region <| WL.move rfl rfl <| WL.move rfl rfl <| SL.call hS (ok_Support (GFR.ext (GFR.norm hgg) hS.ext) (hS.ro hl) hv) XF21 rfl XN21 rfl rfl ?_
  rintro _ _ w11 ⟨x12, A13, k14, rfl, rfl, hv⟩ hGw11 hS
  have hS := hS.n1
  refine WL.len XU22 rfl rfl <| WL.assign rfl rfl <| WL.done <| W.ret <| ⟨_, rfl, Fin.nil ?_⟩
  exact ⟨_, hS.ext, (hS.pick [] rfl).rows, News.of (hS.pick [] rfl).rows rfl, ⟨((x12.length : Nat) : Int), rfl, rfl, hv⟩⟩
def V_Distance (Fg : GFv) (a : List Int) (b : List Int) (Q : Int × Int → Prop) : Prop :=
  V_wSub Fg a b (fun q => match q with | (x12, r16) => V_Weight Fg x12 (fun r18 => Q (r18, r16)))
theorem ok_Distance {w : World} {Q : Int × Int → Prop} {Fg : GFv} {a : List Int} {b : List Int} {ag : Addr} {Bg : Nat} (hgg : GFR Bg w ag Fg) {Ba : Nat} {Aa : Option Addr} {na ka : Nat} (ha : Rd Ba w 1 Aa na ka (is a)) {Bb : Nat} {Ab : Option Addr} {nb kb : Nat} (hb : Rd Bb w 1 Ab nb kb (is b)) (hv : V_Distance Fg a b Q) :
    Calls Try.prog 24 #[.pointer (some ag), .slice Aa na ka, .slice Ab nb kb] w fun e w' => ∃ v Qr, e = .returned v ∧ w.grownBy w' none ∧ Rows w.heap.size none w' Qr ∧ News w.heap.size Qr ∧ ∃ (r0 : Int) (r1 : Int), v = .tuple #[.int .i64 r0, .int .i64 r1] ∧ Qr = [] ∧ Q (r0, r1) := by
  have hgg_ := hgg
  obtain ⟨Ag_mod, kg_mod, Ag_exp, kg_exp, Ag_log, kg_log, Ag_above, kg_above, hg_c, hg_mod, hg_exp, hg_log, hg_above⟩ := hgg_
  have hna := ha.ilen
  subst hna
  have hnb := hb.ilen
  subst hnb
  refine calls_swap <| calls_of_W (vs := [.pointer (some ag), .slice Aa a.length ka, .slice Ab b.length kb]) [6, 7] XF24 rfl rfl rfl rfl ?_
  have hS := St.start w
  unfold V_Distance at hv
  refine W.seq <| W.region <| WL.assign rfl rfl <| WL.assign rfl rfl <| WL.done <| W.seq <| W.region <| WL.move rfl rfl <| WL.move rfl rfl <| WL.move rfl rfl <| SL.call hS (ok_wSub (GFR.ext (GFR.norm hgg) hS.ext) (hS.ro ha) (hS.ro hb) hv) XF26 rfl XN26 rfl rfl ?_
  rintro _ _ w11 ⟨x12, r16, A13, k14, rfl, rfl, hv⟩ hGw11 hS
  have hS := hS.n1
  refine WL.move rfl rfl <| WL.extract rfl rfl rfl <| WL.extract rfl rfl rfl <| WL.assign rfl rfl <| WL.assign rfl rfl <| WL.done <| W.seq <| W.region <| WL.move rfl rfl <| WL.move rfl rfl <| SL.call hS (ok_Weight (GFR.ext (GFR.norm hgg) hS.ext) (hS.rd (i := 0) rfl) hv) XF23 rfl XN23 rfl rfl ?_
  rintro _ _ w17 ⟨r18, rfl, rfl, hv⟩ hGw17 hS
  have hS := hS.n0
  refine WL.move rfl rfl <| WL.assign rfl rfl <| WL.assign rfl rfl <| WL.done <| W.ret <| ⟨_, rfl, Fin.nil ?_⟩
  exact ⟨_, hS.ext, (hS.pick [] rfl).rows, News.of (hS.pick [] rfl).rows rfl, ⟨r18, r16, rfl, rfl, hv⟩⟩
end Go.Proofs.Ytcmfjjbbcfddpaa
set_option linter.unusedVariables false
set_option linter.unusedSimpArgs false
namespace Go.Proofs.Ytcmfjjbbcfddpaa
def cnp (f : Nat → Bool) (k : Nat) : Nat := ((List.range k).filter f).length
theorem pos_succ (f : Nat → Bool) (k : Nat) : pos f (k + 1) = if f k = true then pos f k ++ [(k : Int)] else pos f k := by
  unfold pos
  rw [List.range_succ, List.filter_append, List.map_append]
  cases h : f k <;> simp [h]
theorem cnp_succ (f : Nat → Bool) (k : Nat) : cnp f (k + 1) = cnp f k + if f k = true then 1 else 0 := by
  unfold cnp
  rw [List.range_succ, List.filter_append, List.length_append]
  cases h : f k <;> simp [h]
theorem pos_len (f : Nat → Bool) (k : Nat) : (pos f k).length = cnp f k := by simp [pos, cnp]
theorem cnp_le (f : Nat → Bool) : ∀ k, cnp f k ≤ k
  | 0 => Nat.le_refl _
  | k + 1 => by rw [cnp_succ]; have := cnp_le f k; split <;> omega
theorem cnp_congr {f h : Nat → Bool} : ∀ {k}, (∀ i, i < k → f i = h i) → cnp f k = cnp h k
  | 0, _ => rfl
  | k + 1, e => by rw [cnp_succ, cnp_succ, cnp_congr fun i hi => e i (by omega), e k (by omega)]
theorem cnp_zero {f : Nat → Bool} : ∀ {k}, cnp f k = 0 ↔ ∀ i, i < k → f i = false
  | 0 => by simp [cnp]
  | k + 1 => by
    rw [cnp_succ]
    constructor
    · intro h i hi
      by_cases e : i = k
      · subst e; cases hf : f i
        · rfl
        · rw [hf, if_pos rfl] at h; omega
      · exact (cnp_zero (k := k)).1 (by omega) i (by omega)
    · intro h
      rw [(cnp_zero (k := k)).2 fun i hi => h i (by omega), h k (by omega)]; rfl
theorem cnp_tri {f g h : Nat → Bool} : ∀ {k}, (∀ i, i < k → f i = true → g i = true ∨ h i = true) → cnp f k ≤ cnp g k + cnp h k
  | 0, _ => by simp [cnp]
  | k + 1, e => by
    have := cnp_tri (k := k) fun i hi => e i (by omega)
    have e := e k (by omega)
    rw [cnp_succ, cnp_succ, cnp_succ]
    cases hf : f k
    · simp only [Bool.false_eq_true, if_false]; omega
    · rcases e hf with h1 | h1
      · rw [h1]; simp only [if_true]; omega
      · rw [h1]; simp only [if_true]; omega
def nzf (q : Nat) (l : List Int) (i : Nat) : Bool := decide (inE q (vo l i) ≠ 0)
/-- The positions of the nonzero entries. -/
def spt (q : Nat) (l : List Int) : List Int := pos (nzf q l) l.length
theorem spt_len (q : Nat) (l : List Int) : (spt q l).length = cnp (nzf q l) l.length := pos_len _ _
theorem nz_iff {q : Nat} {x : Int} : inE q x ≠ 0 ↔ x ≠ 0 ∧ 0 ≤ x ∧ x < (q : Int) := by
  unfold inE
  split
  · omega
  · exact ⟨fun h => absurd rfl h, fun h => by omega⟩
theorem pos_yes {f : Nat → Bool} {k : Nat} (h : f k = true) : pos f k ++ [(k : Int)] = pos f (k + 1) := by rw [pos_succ, if_pos h]
theorem pos_no {f : Nat → Bool} {k : Nat} (h : f k = false) : pos f k = pos f (k + 1) := by rw [pos_succ, if_neg (by rw [h]; decide)]
section
variable {F : GFv} {p m v g : Nat}
theorem v_Support (K : GFk F p m v g) {l : List Int} {Q : List Int → Prop} (hl : l.length ≤ LB) (h : Q (spt (p ^ m) l)) : V_Support F l Q := by
  unfold LB at hl
  refine ⟨fun x z => ∃ k : Nat, z = k ∧ k ≤ l.length ∧ x = pos (nzf (p ^ m) l) k, fun x z => (l.length - z).toNat, ⟨0, rfl, Nat.zero_le _, rfl⟩, ?_⟩
  rintro x _ ⟨k, rfl, hk, rfl⟩
  have hpl := pos_len (nzf (p ^ m) l) k
  have hcl := cnp_le (nzf (p ^ m) l) k
  dsimp only
  rw [gi_nat]
  refine ⟨fun hlt => ?_, fun hge => by rw [show k = l.length by omega]; exact h⟩
  refine ⟨fun y b => y = pos (nzf (p ^ m) l) (k + 1), ⟨⟨by omega, by omega⟩, fun h0 => v_Is K ⟨fun hb => ?_, fun hb => ?_⟩, fun h0 => ?_⟩, ?_⟩
  · have hb := of_decide_eq_true hb
    exact ⟨by omega, pos_yes (decide_eq_true (nz_iff.2 ⟨h0, hb⟩))⟩
  · have hb := of_decide_eq_false hb
    exact pos_no (decide_eq_false fun e => hb (nz_iff.1 e).2)
  · exact pos_no (decide_eq_false fun e => h0 (nz_iff.1 e).1)
  · rintro y b rfl
    exact ⟨⟨by omega, by omega⟩, ⟨k + 1, by push_cast; rfl, by omega, rfl⟩, by omega⟩
theorem v_Weight (K : GFk F p m v g) {l : List Int} {Q : Int → Prop} (hl : l.length ≤ LB) (h : Q ((cnp (nzf (p ^ m) l) l.length : Nat) : Int)) : V_Weight F l Q := by
  refine v_Support K hl ?_
  rw [spt_len]; exact h
end
section
variable {F : GFv} {p m v g : Nat}
end
/-- where two lists differ -/
def dff (q : Nat) (a b : List Int) (i : Nat) : Bool := decide (inE q (vo a i) ≠ inE q (vo b i))
theorem inE_esub {p m : Nat} (hp : 0 < p) (x y : Int) : inE (p ^ m) (esub p m x y) = fadd p m (inE (p ^ m) x) (fneg p m (inE (p ^ m) y)) := inE_nat (fadd_lt hp _ _)
theorem fsub_zero {p m x y : Nat} (hp : 0 < p) (hx : x < p ^ m) (hy : y < p ^ m) : fadd p m x (fneg p m y) = 0 ↔ x = y := by
  have hn := fneg_lt (m := m) hp y
  constructor
  · intro h
    have e : fadd p m (fadd p m x (fneg p m y)) y = fadd p m 0 y := by rw [h]
    rw [fadd_assoc hp hx hn hy, fadd_comm (fneg p m y) y, fadd_neg hp hy, fadd_zero hp hx, fadd_comm 0 y, fadd_zero hp hy] at e
    exact e
  · rintro rfl; exact fadd_neg hp hx
theorem sub_nz {p m : Nat} (hp : 0 < p) {a b : List Int} (i : Nat) (hi : i < a.length) : nzf (p ^ m) (zwf (esub p m) a b) i = dff (p ^ m) a b i := by
  unfold nzf dff
  have hq : 0 < p ^ m := Nat.pow_pos hp
  rw [zwf_at hi, inE_esub hp]
  exact decide_eq_decide.2 (not_congr (fsub_zero hp (inE_lt hq _) (inE_lt hq _)))
theorem sub_cnp {p m : Nat} (hp : 0 < p) {a b : List Int} : cnp (nzf (p ^ m) (zwf (esub p m) a b)) a.length = cnp (dff (p ^ m) a b) a.length := cnp_congr fun i hi => sub_nz hp i hi
section
variable {F : GFv} {p m v g : Nat}
theorem v_Distance (K : GFk F p m v g) {a b : List Int} {Q : Int × Int → Prop} (hl : a.length ≤ LB) (h0 : a.length ≠ b.length → Q (0, 4)) (h1 : a.length = b.length → Q (((cnp (dff (p ^ m) a b) a.length : Nat) : Int), 0)) : V_Distance F a b Q := by
  have hp := K.fv.p2
  refine v_wSub K hl (fun e => v_Weight K (by simp [LB]) (h0 e)) fun e => v_Weight K (by rw [zwf_len]; exact hl) ?_
  rw [zwf_len, sub_cnp (by omega)]; exact h1 e
end
section
variable {P M : Int} {mf : List Int} {p m v : Nat}
end
end Go.Proofs.Ytcmfjjbbcfddpaa
set_option linter.unusedSimpArgs false
set_option linter.unusedVariables false
set_option maxRecDepth 4000
set_option maxHeartbeats 4000000
namespace Go.Proofs.Ytcmfjjbbcfddpaa
open Go.RowKit
def V_LTriangle (Pl : Int) (Ml : Int) (ml : List Int) (la : List Int) (lb : List Int) (lc : List Int) (Q : Bool → Prop) : Prop :=
  V_open Pl Ml ml (fun q => match q with | (none, r15) => Q r15 | (some F16, _) => V_Distance F16 ([(1 : Int), (0 : Int), (1 : Int)] : List Int) ([(0 : Int), (0 : Int), (1 : Int)] : List Int) (fun q => match q with | (r29, r30) => ((r29 ≠ (1 : Int)) → Q false) ∧ (¬ (r29 ≠ (1 : Int)) → (((r30 ≠ (0 : Int)) → Q false) ∧ (¬ (r30 ≠ (0 : Int)) → (((((la.length : Nat) : Int) ≠ ((lb.length : Nat) : Int)) → Q true) ∧ (¬ (((la.length : Nat) : Int) ≠ ((lb.length : Nat) : Int)) → (((((lb.length : Nat) : Int) ≠ ((lc.length : Nat) : Int)) → Q true) ∧ (¬ (((lb.length : Nat) : Int) ≠ ((lc.length : Nat) : Int)) → (V_Distance F16 la lb (fun q => match q with | (r36, r37) => V_Distance F16 lb la (fun q => match q with | (r39, r40) => V_Distance F16 lb lc (fun q => match q with | (r42, r43) => V_Distance F16 la lc (fun q => match q with | (r45, r46) => ((r37 ≠ (0 : Int)) → Q false) ∧ (¬ (r37 ≠ (0 : Int)) → (((r40 ≠ (0 : Int)) → Q false) ∧ (¬ (r40 ≠ (0 : Int)) → (((r43 ≠ (0 : Int)) → Q false) ∧ (¬ (r43 ≠ (0 : Int)) → (((r46 ≠ (0 : Int)) → Q false) ∧ (¬ (r46 ≠ (0 : Int)) → (((r36 ≠ r39) → Q false) ∧ (¬ (r36 ≠ r39) → (∃ (x83 : List Int), V_rClean Pl Ml ml la (fun q => q = x83) ∧ (∃ (x96 : List Int), V_rClean Pl Ml ml lb (fun q => q = x96) ∧ (∃ (r105 : Bool), V_rwSame x83 x96 (fun q => q = r105) ∧ (((((decide (r36 = (0 : Int))) != r105) = true) → Q false) ∧ (((decide (r36 = (0 : Int))) != r105) = false → ((I64 (r36 + r42)) ∧ (Q (decide (r45 ≤ (r36 + r42)))))))))))))))))))))))))))))))))
theorem ok_LTriangle {w : World} {Q : Bool → Prop} {Pl : Int} {Ml : Int} {ml : List Int} {la : List Int} {lb : List Int} {lc : List Int} {Bl : Nat} {Al : Option Addr} {nl kl : Nat} (hl : Rd Bl w 1 Al nl kl (is ml)) {Bla : Nat} {Ala : Option Addr} {nla kla : Nat} (hla : Rd Bla w 1 Ala nla kla (is la)) {Blb : Nat} {Alb : Option Addr} {nlb klb : Nat} (hlb : Rd Blb w 1 Alb nlb klb (is lb)) {Blc : Nat} {Alc : Option Addr} {nlc klc : Nat} (hlc : Rd Blc w 1 Alc nlc klc (is lc)) (hv : V_LTriangle Pl Ml ml la lb lc Q) :
    Calls Try.prog 5 #[.agg #[.int .i64 Pl, .int .i64 Ml, .slice Al nl kl, .slice Ala nla kla, .slice Alb nlb klb, .slice Alc nlc klc]] w fun e w' => ∃ v Qr, e = .returned v ∧ w.grownBy w' none ∧ Rows w.heap.size none w' Qr ∧ News w.heap.size Qr ∧ ∃ (r0 : Bool), v = .bool r0 ∧ Qr = [] ∧ Q r0 := by
  have hnl := hl.ilen
  subst hnl
  have hnla := hla.ilen
  subst hnla
  have hnlb := hlb.ilen
  subst hnlb
  have hnlc := hlc.ilen
  subst hnlc
  refine calls_swap <| calls_of_W (vs := [.agg #[.int .i64 Pl, .int .i64 Ml, .slice Al ml.length kl, .slice Ala la.length kla, .slice Alb lb.length klb, .slice Alc lc.length klc]]) [2] XF5 rfl rfl rfl rfl ?_
  have hS := St.start w
  unfold V_LTriangle at hv
  refine W.seq <| W.region <| SL.box (z := 6) (cs := [.int .i64 Pl, .int .i64 Ml, .slice Al ml.length kl, .slice Ala la.length kla, .slice Alb lb.length klb, .slice Alc lc.length klc]) hS rfl rfl rfl rfl ?_
  intro g11 w12 hS
  refine WL.assign rfl rfl <| WL.done <| W.seq <| W.region <| WL.fieldA (off := 0) XA41_0 rfl rfl <| WL.loadV (cs := [.int .i64 Pl, .int .i64 Ml, .slice Al ml.length kl]) XE24 XG24 rfl rfl (vpart (hS.rd (i := 0) rfl) 0 rfl) rfl <| SL.call hS (ok_open (hS.ro hl) hv) XF17 rfl XN17 rfl rfl ?_
  rintro _ _ w14 ⟨o, r15, hv, hK⟩ hGw14 hS
  cases o with
  | none =>
    obtain ⟨rfl, rfl⟩ := hK
    change St _ _ _ _ [.row 41 6 (some ⟨g11, 0, none⟩) 1 1 [.int .i64 Pl, .int .i64 Ml, .slice Al ml.length kl, .slice Ala la.length kla, .slice Alb lb.length klb, .slice Alc lc.length klc]] at hS
    refine WL.move rfl rfl <| WL.extract rfl rfl rfl <| WL.extract rfl rfl rfl <| WL.extract rfl rfl rfl <| WL.assign rfl rfl <| WL.assign rfl rfl <| WL.assign rfl rfl <| WL.done <| W.seq <| W.seq <| W.region <| WL.move rfl rfl <| WL.done <| W.condT rfl <| W.seq <| W.region <| WL.move rfl rfl <| WL.assign rfl rfl <| WL.done <| W.ret <| ⟨_, rfl, Fin.nil ?_⟩
    exact ⟨_, hS.ext, (hS.pick [] rfl).rows, News.of (hS.pick [] rfl).rows rfl, ⟨r15, rfl, rfl, hv⟩⟩
  | some F16 =>
    obtain ⟨ad17, lo18, hi19, rfl, rfl⟩ := hK
    change St _ _ _ _ [.ch lo18 hi19 (fun wz => GFX lo18 hi19 wz ad17 F16), .row 41 6 (some ⟨g11, 0, none⟩) 1 1 [.int .i64 Pl, .int .i64 Ml, .slice Al ml.length kl, .slice Ala la.length kla, .slice Alb lb.length klb, .slice Alc lc.length klc]] at hS
    refine WL.move rfl rfl <| WL.extract rfl rfl rfl <| WL.extract rfl rfl rfl <| WL.extract rfl rfl rfl <| WL.assign rfl rfl <| WL.assign rfl rfl <| WL.assign rfl rfl <| WL.done <| W.seq <| W.seq <| W.region <| WL.move rfl rfl <| WL.done <| W.condF rfl <| W.skip <| W.seq <| W.region <| WL.move rfl rfl <| SL.lit1 (vs := is ([(1 : Int), (0 : Int), (1 : Int)] : List Int)) hS XU22 XE3 rfl rfl rfl rfl (is_one _) rfl ?_
    intro A22 w23 hS
    refine SL.lit1 (vs := is ([(0 : Int), (0 : Int), (1 : Int)] : List Int)) hS XU22 XE3 rfl rfl rfl rfl (is_one _) rfl ?_
    intro A25 w26 hS
    refine SL.call hS (ok_Distance (GFX.gfr (hS.chunk (i := 2) rfl)) (hS.rd (i := 1) rfl) (hS.rd (i := 0) rfl) hv) XF24 rfl XN24 rfl rfl ?_
    rintro _ _ w28 ⟨r29, r30, rfl, rfl, hv⟩ hGw28 hS
    have hS := hS.n0
    refine WL.move rfl rfl <| WL.extract rfl rfl rfl <| WL.extract rfl rfl rfl <| WL.assign rfl rfl <| WL.assign rfl rfl <| WL.done <| W.seq <| W.seq <| W.region <| WL.move rfl rfl <| WL.neqD rfl rfl rfl <| WL.move rfl rfl ?_
    by_cases g31 : r29 ≠ (1 : Int)
    ·have hv := hv.1 g31
     rw [decide_eq_true g31]
     refine WL.pass rfl rfl rfl <| WL.pass rfl rfl rfl <| WL.pick rfl rfl rfl <| WL.done <| W.condT rfl <| W.seq <| W.region <| WL.assign rfl rfl <| WL.done <| W.ret <| ⟨_, rfl, Fin.nil ?_⟩
     exact ⟨_, hS.ext, (hS.pick [] rfl).rows, News.of (hS.pick [] rfl).rows rfl, ⟨false, rfl, rfl, hv⟩⟩
    have hv := hv.2 g31
    rw [decide_eq_false g31]
    refine WL.take rfl <| WL.move rfl rfl <| WL.take rfl <| WL.neqD rfl rfl rfl <| WL.pick rfl rfl rfl <| WL.done <| W.cond2 rfl (fun c32 => ?_) (fun c32 => ?_)
    ·have hv := hv.1 (of_decide_eq_true c32)
     refine W.seq <| W.region <| WL.assign rfl rfl <| WL.done <| W.ret <| ⟨_, rfl, Fin.nil ?_⟩
     exact ⟨_, hS.ext, (hS.pick [] rfl).rows, News.of (hS.pick [] rfl).rows rfl, ⟨false, rfl, rfl, hv⟩⟩
    have hv := hv.2 (of_decide_eq_false c32)
    refine W.skip <| W.seq <| W.seq <| W.region <| WL.fieldA (off := 3) XA41_1 rfl rfl <| WL.load XU22 rfl rfl (Own.vcells (hS.own (i := 3) rfl) 3 _ rfl) rfl <| WL.len XU22 rfl rfl <| WL.fieldA (off := 4) XA41_2 rfl rfl <| WL.load XU22 rfl rfl (Own.vcells (hS.own (i := 3) rfl) 4 _ rfl) rfl <| WL.len XU22 rfl rfl <| WL.neqD rfl rfl rfl <| WL.move rfl rfl ?_
    by_cases g33 : ((la.length : Nat) : Int) ≠ ((lb.length : Nat) : Int)
    ·have hv := hv.1 g33
     rw [decide_eq_true g33]
     refine WL.pass rfl rfl rfl <| WL.pass rfl rfl rfl <| WL.pass rfl rfl rfl <| WL.pass rfl rfl rfl <| WL.pass rfl rfl rfl <| WL.pass rfl rfl rfl <| WL.pass rfl rfl rfl <| WL.pick rfl rfl rfl <| WL.done <| W.condT rfl <| W.seq <| W.region <| WL.assign rfl rfl <| WL.done <| W.ret <| ⟨_, rfl, Fin.nil ?_⟩
     exact ⟨_, hS.ext, (hS.pick [] rfl).rows, News.of (hS.pick [] rfl).rows rfl, ⟨true, rfl, rfl, hv⟩⟩
    have hv := hv.2 g33
    rw [decide_eq_false g33]
    refine WL.take rfl <| WL.fieldA (off := 4) XA41_2 rfl rfl <| WL.take rfl <| WL.load XU22 rfl rfl (Own.vcells (hS.own (i := 3) rfl) 4 _ rfl) rfl <| WL.take rfl <| WL.len XU22 rfl rfl <| WL.take rfl <| WL.fieldA (off := 5) XA41_3 rfl rfl <| WL.take rfl <| WL.load XU22 rfl rfl (Own.vcells (hS.own (i := 3) rfl) 5 _ rfl) rfl <| WL.take rfl <| WL.len XU22 rfl rfl <| WL.take rfl <| WL.neqD rfl rfl rfl <| WL.pick rfl rfl rfl <| WL.done <| W.cond2 rfl (fun c34 => ?_) (fun c34 => ?_)
    ·have hv := hv.1 (of_decide_eq_true c34)
     refine W.seq <| W.region <| WL.assign rfl rfl <| WL.done <| W.ret <| ⟨_, rfl, Fin.nil ?_⟩
     exact ⟨_, hS.ext, (hS.pick [] rfl).rows, News.of (hS.pick [] rfl).rows rfl, ⟨true, rfl, rfl, hv⟩⟩
    have hv := hv.2 (of_decide_eq_false c34)
    refine W.skip <| W.seq <| W.region <| WL.move rfl rfl <| WL.fieldA (off := 3) XA41_1 rfl rfl <| WL.load XU22 rfl rfl (Own.vcells (hS.own (i := 3) rfl) 3 _ rfl) rfl <| WL.fieldA (off := 4) XA41_2 rfl rfl <| WL.load XU22 rfl rfl (Own.vcells (hS.own (i := 3) rfl) 4 _ rfl) rfl <| SL.call hS (ok_Distance (GFX.gfr (hS.chunk (i := 2) rfl)) (hS.ro hla) (hS.ro hlb) hv) XF24 rfl XN24 rfl rfl ?_
    rintro _ _ w35 ⟨r36, r37, rfl, rfl, hv⟩ hGw35 hS
    have hS := hS.n0
    refine WL.move rfl rfl <| WL.extract rfl rfl rfl <| WL.extract rfl rfl rfl <| WL.assign rfl rfl <| WL.assign rfl rfl <| WL.done <| W.seq <| W.region <| WL.move rfl rfl <| WL.fieldA (off := 4) XA41_2 rfl rfl <| WL.load XU22 rfl rfl (Own.vcells (hS.own (i := 3) rfl) 4 _ rfl) rfl <| WL.fieldA (off := 3) XA41_1 rfl rfl <| WL.load XU22 rfl rfl (Own.vcells (hS.own (i := 3) rfl) 3 _ rfl) rfl <| SL.call hS (ok_Distance (GFX.gfr (hS.chunk (i := 2) rfl)) (hS.ro hlb) (hS.ro hla) hv) XF24 rfl XN24 rfl rfl ?_
    rintro _ _ w38 ⟨r39, r40, rfl, rfl, hv⟩ hGw38 hS
    have hS := hS.n0
    refine WL.move rfl rfl <| WL.extract rfl rfl rfl <| WL.extract rfl rfl rfl <| WL.assign rfl rfl <| WL.assign rfl rfl <| WL.done <| W.seq <| W.region <| WL.move rfl rfl <| WL.fieldA (off := 4) XA41_2 rfl rfl <| WL.load XU22 rfl rfl (Own.vcells (hS.own (i := 3) rfl) 4 _ rfl) rfl <| WL.fieldA (off := 5) XA41_3 rfl rfl <| WL.load XU22 rfl rfl (Own.vcells (hS.own (i := 3) rfl) 5 _ rfl) rfl <| SL.call hS (ok_Distance (GFX.gfr (hS.chunk (i := 2) rfl)) (hS.ro hlb) (hS.ro hlc) hv) XF24 rfl XN24 rfl rfl ?_
    rintro _ _ w41 ⟨r42, r43, rfl, rfl, hv⟩ hGw41 hS
    have hS := hS.n0
    refine WL.move rfl rfl <| WL.extract rfl rfl rfl <| WL.extract rfl rfl rfl <| WL.assign rfl rfl <| WL.assign rfl rfl <| WL.done <| W.seq <| W.region <| WL.move rfl rfl <| WL.fieldA (off := 3) XA41_1 rfl rfl <| WL.load XU22 rfl rfl (Own.vcells (hS.own (i := 3) rfl) 3 _ rfl) rfl <| WL.fieldA (off := 5) XA41_3 rfl rfl <| WL.load XU22 rfl rfl (Own.vcells (hS.own (i := 3) rfl) 5 _ rfl) rfl <| SL.call hS (ok_Distance (GFX.gfr (hS.chunk (i := 2) rfl)) (hS.ro hla) (hS.ro hlc) hv) XF24 rfl XN24 rfl rfl ?_
    rintro _ _ w44 ⟨r45, r46, rfl, rfl, hv⟩ hGw44 hS
    have hS := hS.n0
    refine WL.move rfl rfl <| WL.extract rfl rfl rfl <| WL.extract rfl rfl rfl <| WL.assign rfl rfl <| WL.assign rfl rfl <| WL.done <| W.seq <| W.seq <| W.region <| WL.move rfl rfl <| WL.neqD rfl rfl rfl <| WL.move rfl rfl ?_
    by_cases g47 : r37 ≠ (0 : Int)
    ·have hv := hv.1 g47
     rw [decide_eq_true g47]
     refine WL.pass rfl rfl rfl <| WL.pass rfl rfl rfl <| WL.pick rfl rfl rfl <| WL.move rfl rfl <| WL.pass rfl rfl rfl <| WL.pass rfl rfl rfl <| WL.pick rfl rfl rfl <| WL.move rfl rfl <| WL.pass rfl rfl rfl <| WL.pass rfl rfl rfl <| WL.pick rfl rfl rfl <| WL.done <| W.condT rfl <| W.seq <| W.region <| WL.assign rfl rfl <| WL.done <| W.ret <| ⟨_, rfl, Fin.nil ?_⟩
     exact ⟨_, hS.ext, (hS.pick [] rfl).rows, News.of (hS.pick [] rfl).rows rfl, ⟨false, rfl, rfl, hv⟩⟩
    have hv := hv.2 g47
    rw [decide_eq_false g47]
    refine WL.take rfl <| WL.move rfl rfl <| WL.take rfl <| WL.neqD rfl rfl rfl <| WL.pick rfl rfl rfl <| WL.move rfl rfl ?_
    by_cases g48 : r40 ≠ (0 : Int)
    ·have hv := hv.1 g48
     rw [decide_eq_true g48]
     refine WL.pass rfl rfl rfl <| WL.pass rfl rfl rfl <| WL.pick rfl rfl rfl <| WL.move rfl rfl <| WL.pass rfl rfl rfl <| WL.pass rfl rfl rfl <| WL.pick rfl rfl rfl <| WL.done <| W.condT rfl <| W.seq <| W.region <| WL.assign rfl rfl <| WL.done <| W.ret <| ⟨_, rfl, Fin.nil ?_⟩
     exact ⟨_, hS.ext, (hS.pick [] rfl).rows, News.of (hS.pick [] rfl).rows rfl, ⟨false, rfl, rfl, hv⟩⟩
    have hv := hv.2 g48
    rw [decide_eq_false g48]
    refine WL.take rfl <| WL.move rfl rfl <| WL.take rfl <| WL.neqD rfl rfl rfl <| WL.pick rfl rfl rfl <| WL.move rfl rfl ?_
    by_cases g49 : r43 ≠ (0 : Int)
    ·have hv := hv.1 g49
     rw [decide_eq_true g49]
     refine WL.pass rfl rfl rfl <| WL.pass rfl rfl rfl <| WL.pick rfl rfl rfl <| WL.done <| W.condT rfl <| W.seq <| W.region <| WL.assign rfl rfl <| WL.done <| W.ret <| ⟨_, rfl, Fin.nil ?_⟩
     exact ⟨_, hS.ext, (hS.pick [] rfl).rows, News.of (hS.pick [] rfl).rows rfl, ⟨false, rfl, rfl, hv⟩⟩
    have hv := hv.2 g49
    rw [decide_eq_false g49]
    refine WL.take rfl <| WL.move rfl rfl <| WL.take rfl <| WL.neqD rfl rfl rfl <| WL.pick rfl rfl rfl <| WL.done <| W.cond2 rfl (fun c50 => ?_) (fun c50 => ?_)
    ·have hv := hv.1 (of_decide_eq_true c50)
     refine W.seq <| W.region <| WL.assign rfl rfl <| WL.done <| W.ret <| ⟨_, rfl, Fin.nil ?_⟩
     exact ⟨_, hS.ext, (hS.pick [] rfl).rows, News.of (hS.pick [] rfl).rows rfl, ⟨false, rfl, rfl, hv⟩⟩
    have hv := hv.2 (of_decide_eq_false c50)
    refine W.skip <| W.seq <| W.seq ?_
    by_cases g51 : r36 ≠ r39
    ·have hv := hv.1 g51
     refine W.drawV 19 [⟨[], [8], true⟩, ⟨[], [10], true⟩, ⟨[0, 1], [], true⟩, ⟨[2], [], true⟩, ⟨[3], [8], true⟩, ⟨[3, 4], [], true⟩, ⟨[3], [1], true⟩, ⟨[3, 6], [], false⟩, ⟨[3], [1], true⟩, ⟨[3, 8], [], false⟩, ⟨[3, 7, 9], [], false⟩, ⟨[3], [1], true⟩, ⟨[3, 11], [], false⟩, ⟨[3], [1], true⟩, ⟨[3, 13], [], false⟩, ⟨[3, 12, 14], [], false⟩, ⟨[3, 10, 15], [], false⟩, ⟨[3, 5, 16], [], true⟩, ⟨[3, 17], [], true⟩] [[(8, .int .i64 r36)], [(10, .int .i64 r39)], [], [], [(8, .int .i64 r36)], [], [(1, .pointer (some ⟨g11, 0, none⟩))], [], [(1, .pointer (some ⟨g11, 0, none⟩))], [], [], [(1, .pointer (some ⟨g11, 0, none⟩))], [], [(1, .pointer (some ⟨g11, 0, none⟩))], [], [], [], [], []] [(104, .int .i64 r36), (105, .int .i64 r39), (106, .bool true), (107, .bool true), (108, undef), (109, undef), (110, undef), (111, undef), (112, undef), (113, undef), (114, undef), (115, undef), (116, undef), (117, undef), (118, undef), (119, undef), (120, undef), (121, undef), (122, .bool true)] Try.mixed (by kernel_rfl) rfl rfl ?_ ?_
     · refine ⟨⟨rfl, ⟨rfl, trivial⟩, fun _ _ _ => WL.move rfl rfl <| WL.done ⟨rfl, rfl⟩⟩, ⟨rfl, ⟨rfl, trivial⟩, fun _ _ _ => WL.move rfl rfl <| WL.done ⟨rfl, rfl⟩⟩, ⟨rfl, trivial, ?_⟩, ⟨rfl, trivial, fun _ _ _ => WL.move rfl rfl <| WL.done ⟨rfl, rfl⟩⟩, ⟨rfl, ⟨rfl, trivial⟩, fun _ _ _ => WL.pass rfl rfl rfl <| WL.done ⟨rfl, rfl⟩⟩, ⟨rfl, trivial, fun _ _ _ => WL.pass rfl rfl rfl <| WL.done ⟨rfl, rfl⟩⟩, ⟨rfl, ⟨rfl, trivial⟩, fun _ _ _ => WL.pass rfl rfl rfl <| WL.done ⟨rfl, rfl⟩⟩, ⟨rfl, trivial, fun _ hE _ => have hS := hS.grow (hE rfl); WL.pass rfl rfl rfl <| WL.done ⟨rfl, ext_refl _⟩⟩, ⟨rfl, ⟨rfl, trivial⟩, fun _ _ _ => WL.pass rfl rfl rfl <| WL.done ⟨rfl, rfl⟩⟩, ⟨rfl, trivial, fun _ hE _ => have hS := hS.grow (hE rfl); WL.pass rfl rfl rfl <| WL.done ⟨rfl, ext_refl _⟩⟩, ⟨rfl, trivial, fun _ hE _ => have hS := hS.grow (hE rfl); WL.pass rfl rfl rfl <| WL.done ⟨rfl, ext_refl _⟩⟩, ⟨rfl, ⟨rfl, trivial⟩, fun _ _ _ => WL.pass rfl rfl rfl <| WL.done ⟨rfl, rfl⟩⟩, ⟨rfl, trivial, fun _ hE _ => have hS := hS.grow (hE rfl); WL.pass rfl rfl rfl <| WL.done ⟨rfl, ext_refl _⟩⟩, ⟨rfl, ⟨rfl, trivial⟩, fun _ _ _ => WL.pass rfl rfl rfl <| WL.done ⟨rfl, rfl⟩⟩, ⟨rfl, trivial, fun _ hE _ => have hS := hS.grow (hE rfl); WL.pass rfl rfl rfl <| WL.done ⟨rfl, ext_refl _⟩⟩, ⟨rfl, trivial, fun _ hE _ => have hS := hS.grow (hE rfl); WL.pass rfl rfl rfl <| WL.done ⟨rfl, ext_refl _⟩⟩, ⟨rfl, trivial, fun _ hE _ => have hS := hS.grow (hE rfl); WL.pass rfl rfl rfl <| WL.done ⟨rfl, ext_refl _⟩⟩, ⟨rfl, trivial, fun _ _ _ => WL.pass rfl rfl rfl <| WL.done ⟨rfl, rfl⟩⟩, ⟨rfl, trivial, fun _ _ _ => WL.pick rfl rfl rfl <| WL.done ⟨rfl, rfl⟩⟩, trivial⟩
       intro w54 hE RR
       refine WL.neqD rfl rfl rfl ?_; rw [decide_eq_true g51]
       exact WL.done ⟨rfl, rfl⟩
     intro w71 hT
     have hS := hS.grow hT
     refine WA.done (by decide +kernel) <| W.condT rfl <| W.seq <| W.region <| WL.assign rfl rfl <| WL.done <| W.ret <| ⟨_, rfl, Fin.nil ?_⟩
     exact ⟨_, hS.ext, (hS.pick [] rfl).rows, News.of (hS.pick [] rfl).rows rfl, ⟨false, rfl, rfl, hv⟩⟩
    have hv := hv.2 g51
    obtain ⟨x83, o90, hv⟩ := hv
    obtain ⟨x96, o103, hv⟩ := hv
    obtain ⟨r105, o107, hv⟩ := hv
    have hS0 := hS
    refine W.drawX 19 (fun iA => [false, false, false, false, false, false, false, false, false, false, true, false, false, false, false, true, false, false, false].getD iA false) (fun _ => none) (fun _ v => v) [⟨[], [8], true⟩, ⟨[], [10], true⟩, ⟨[0, 1], [], true⟩, ⟨[2], [], true⟩, ⟨[3], [8], true⟩, ⟨[3, 4], [], true⟩, ⟨[3], [1], true⟩, ⟨[3, 6], [], false⟩, ⟨[3], [1], true⟩, ⟨[3, 8], [], false⟩, ⟨[3, 7, 9], [], false⟩, ⟨[3], [1], true⟩, ⟨[3, 11], [], false⟩, ⟨[3], [1], true⟩, ⟨[3, 13], [], false⟩, ⟨[3, 12, 14], [], false⟩, ⟨[3, 10, 15], [], false⟩, ⟨[3, 5, 16], [], true⟩, ⟨[3, 17], [], true⟩] [[(8, .int .i64 r36)], [(10, .int .i64 r39)], [], [], [(8, .int .i64 r36)], [], [(1, .pointer (some ⟨g11, 0, none⟩))], [], [(1, .pointer (some ⟨g11, 0, none⟩))], [], [], [(1, .pointer (some ⟨g11, 0, none⟩))], [], [(1, .pointer (some ⟨g11, 0, none⟩))], [], [], [], [], []] (fun iQ => [fun v _ => v = .int .i64 r36, fun v _ => v = .int .i64 r39, fun v _ => v = .bool false, fun v _ => v = .bool false, fun v _ => v = .int .i64 r36, fun v _ => v = .bool (decide (r36 = (0 : Int))), fun v _ => v = .pointer (some ⟨g11, 0, none⟩), fun v _ => v = .agg #[.int .i64 Pl, .int .i64 Ml, .slice Al ml.length kl], fun v _ => v = .pointer (some ((⟨g11, 0, none⟩ : Addr).add 3)), fun v _ => v = .slice Ala la.length kla, fun v wQ => ∃ A84_10 k85_10, v = .slice A84_10 x83.length k85_10 ∧ Own 0 wQ 3 1 A84_10 x83.length k85_10 (is x83) ∧ (∀ g, bl A84_10 = some g → w44.heap.size ≤ g), fun v _ => v = .pointer (some ⟨g11, 0, none⟩), fun v _ => v = .agg #[.int .i64 Pl, .int .i64 Ml, .slice Al ml.length kl], fun v _ => v = .pointer (some ((⟨g11, 0, none⟩ : Addr).add 4)), fun v _ => v = .slice Alb lb.length klb, fun v wQ => ∃ A97_15 k98_15, v = .slice A97_15 x96.length k98_15 ∧ Own 0 wQ 3 1 A97_15 x96.length k98_15 (is x96) ∧ (∀ g, bl A97_15 = some g → w44.heap.size ≤ g), fun v _ => v = .bool r105, fun v _ => v = .bool ((decide (r36 = (0 : Int))) != r105), fun v _ => v = .bool ((decide (r36 = (0 : Int))) != r105)].getD iQ (fun _ _ => True)) (fun _ => vbD) Try.mixed (by kernel_rfl) ?_ (fun _ _ _ _ _ _ _ h => h) (by kernel_rfl) ?_ ?_
    · refine Vs_monoT _ ?_
      intro VQ hVQ vQ wQ1 wQ2 hQ1 hQ2
      simp only [List.mem_cons, List.not_mem_nil, or_false] at hVQ
      rcases hVQ with rfl | rfl | rfl | rfl | rfl | rfl | rfl | rfl | rfl | rfl | rfl | rfl | rfl | rfl | rfl | rfl | rfl | rfl | rfl
      any_goals exact hQ1
      · obtain ⟨A84_10, k85_10, hQe, hO88_10, hN89_10⟩ := hQ1
        exact ⟨A84_10, k85_10, hQe, hO88_10.ext hQ2, hN89_10⟩
      obtain ⟨A97_15, k98_15, hQe, hO101_15, hN102_15⟩ := hQ1
      exact ⟨A97_15, k98_15, hQe, hO101_15.ext hQ2, hN102_15⟩
    · refine ⟨⟨rfl, ⟨rfl, trivial⟩, ?_⟩, ⟨rfl, ⟨rfl, trivial⟩, ?_⟩, ⟨rfl, trivial, ?_⟩, ⟨rfl, trivial, ?_⟩, ⟨rfl, ⟨rfl, trivial⟩, ?_⟩, ⟨rfl, trivial, ?_⟩, ⟨rfl, ⟨rfl, trivial⟩, ?_⟩, ⟨rfl, trivial, ?_⟩, ⟨rfl, ⟨rfl, trivial⟩, ?_⟩, ⟨rfl, trivial, ?_⟩, ⟨rfl, trivial, ?_⟩, ⟨rfl, ⟨rfl, trivial⟩, ?_⟩, ⟨rfl, trivial, ?_⟩, ⟨rfl, ⟨rfl, trivial⟩, ?_⟩, ⟨rfl, trivial, ?_⟩, ⟨rfl, trivial, ?_⟩, ⟨rfl, trivial, ?_⟩, ⟨rfl, trivial, ?_⟩, ⟨rfl, trivial, ?_⟩, trivial⟩
      · intro w72 hE
        intro RR
        refine WL.move rfl rfl ?_
        exact WL.done ⟨_, rfl, dnq rfl rfl rfl rfl⟩
      · intro w73 hE
        intro RR
        refine WL.move rfl rfl ?_
        exact WL.done ⟨_, rfl, dnq rfl rfl rfl rfl⟩
      · intro w74 hE
        rintro _ rfl
        rintro _ rfl
        intro RR
        refine WL.neqD rfl rfl rfl ?_; rw [decide_eq_false g51]
        exact WL.done ⟨_, rfl, dnq rfl rfl rfl rfl⟩
      · intro w75 hE
        rintro _ rfl
        intro RR
        refine WL.move rfl rfl ?_
        exact WL.done ⟨_, rfl, dnq rfl rfl rfl rfl⟩
      · intro w76 hE
        rintro _ rfl
        intro RR
        refine WL.take rfl <| WL.move rfl rfl ?_
        exact WL.done ⟨_, rfl, dnq rfl rfl rfl rfl⟩
      · intro w77 hE
        rintro _ rfl
        rintro _ rfl
        intro RR
        refine WL.take rfl <| WL.eqlD rfl rfl rfl ?_
        exact WL.done ⟨_, rfl, dnq rfl rfl rfl rfl⟩
      · intro w78 hE
        rintro _ rfl
        intro RR
        refine WL.take rfl <| WL.fieldA (off := 0) XA41_0 rfl rfl ?_
        exact WL.done ⟨_, rfl, dnq rfl rfl rfl rfl⟩
      · intro w79 hE
        have hE := hE rfl
        have hS := hS.grow hE
        rintro _ rfl
        rintro _ rfl
        intro RR
        refine WL.take rfl <| WL.loadV (cs := [.int .i64 Pl, .int .i64 Ml, .slice Al ml.length kl]) XE24 XG24 rfl rfl (vpart (hS.rd (i := 3) rfl) 0 rfl) rfl ?_
        exact WL.done ⟨_, rfl, dnq (ext_refl _) rfl rfl rfl⟩
      · intro w80 hE
        rintro _ rfl
        intro RR
        refine WL.take rfl <| WL.fieldA (off := 3) XA41_1 rfl rfl ?_
        exact WL.done ⟨_, rfl, dnq rfl rfl rfl rfl⟩
      · intro w81 hE
        have hE := hE rfl
        have hS := hS.grow hE
        rintro _ rfl
        rintro _ rfl
        intro RR
        refine WL.take rfl <| WL.load XU22 rfl rfl (Own.vcells (hS.own (i := 3) rfl) 3 _ rfl) rfl ?_
        exact WL.done ⟨_, rfl, dnq (ext_refl _) rfl rfl rfl⟩
      · intro w82 hE
        have hE := hE rfl
        have hS := hS.grow hE
        rintro _ rfl
        rintro _ rfl
        rintro _ rfl
        intro RR
        refine WL.take rfl <| WL.call XF20 rfl XN20 rfl rfl (calls_un (ok_rClean (hS.ro hl) (hS.ro hla) o90)) ?_
        rintro _ w87 ⟨_, hGw87, hRww87, hNww87, x83q, A84, k85, rfl, rfl, he⟩
        subst he
        have hO88 := (hRww87.get (i := 0) rfl).1
        have hN89 : ∀ g, bl A84 = some g → _ ≤ g := fun g hg => Nat.le_trans hE.size (hNww87.1 g hg)
        exact WL.done ⟨_, rfl, hGw87, ⟨A84, k85, rfl, hO88, hN89⟩, (fun _ => fun g hg => ⟨hNww87.1 g hg, (hO88.bl_ge g hg).2⟩), (fun j h => by cases h)⟩
      · intro w91 hE
        rintro _ rfl
        intro RR
        refine WL.take rfl <| WL.fieldA (off := 0) XA41_0 rfl rfl ?_
        exact WL.done ⟨_, rfl, dnq rfl rfl rfl rfl⟩
      · intro w92 hE
        have hE := hE rfl
        have hS := hS.grow hE
        rintro _ rfl
        rintro _ rfl
        intro RR
        refine WL.take rfl <| WL.loadV (cs := [.int .i64 Pl, .int .i64 Ml, .slice Al ml.length kl]) XE24 XG24 rfl rfl (vpart (hS.rd (i := 3) rfl) 0 rfl) rfl ?_
        exact WL.done ⟨_, rfl, dnq (ext_refl _) rfl rfl rfl⟩
      · intro w93 hE
        rintro _ rfl
        intro RR
        refine WL.take rfl <| WL.fieldA (off := 4) XA41_2 rfl rfl ?_
        exact WL.done ⟨_, rfl, dnq rfl rfl rfl rfl⟩
      · intro w94 hE
        have hE := hE rfl
        have hS := hS.grow hE
        rintro _ rfl
        rintro _ rfl
        intro RR
        refine WL.take rfl <| WL.load XU22 rfl rfl (Own.vcells (hS.own (i := 3) rfl) 4 _ rfl) rfl ?_
        exact WL.done ⟨_, rfl, dnq (ext_refl _) rfl rfl rfl⟩
      · intro w95 hE
        have hE := hE rfl
        have hS := hS.grow hE
        rintro _ rfl
        rintro _ rfl
        rintro _ rfl
        intro RR
        refine WL.take rfl <| WL.call XF20 rfl XN20 rfl rfl (calls_un (ok_rClean (hS.ro hl) (hS.ro hlb) o103)) ?_
        rintro _ w100 ⟨_, hGw100, hRww100, hNww100, x96q, A97, k98, rfl, rfl, he⟩
        subst he
        have hO101 := (hRww100.get (i := 0) rfl).1
        have hN102 : ∀ g, bl A97 = some g → _ ≤ g := fun g hg => Nat.le_trans hE.size (hNww100.1 g hg)
        exact WL.done ⟨_, rfl, hGw100, ⟨A97, k98, rfl, hO101, hN102⟩, (fun _ => fun g hg => ⟨hNww100.1 g hg, (hO101.bl_ge g hg).2⟩), (fun j h => by cases h)⟩
      · intro w104 hE
        have hE := hE rfl
        have hS := hS.grow hE
        rintro _ rfl
        rintro _ ⟨A84_10, k85_10, rfl, hO88_10, hN89_10⟩
        rintro _ ⟨A97_15, k98_15, rfl, hO101_15, hN102_15⟩
        intro RR
        refine WL.take rfl <| WL.call XF18 rfl XN18 rfl rfl (calls_un (ok_rwSame hO88_10.rd hO101_15.rd o107)) ?_
        rintro _ w106 ⟨_, hGw106, hRww106, hNww106, r105q, rfl, rfl, he⟩
        subst he
        exact WL.done ⟨_, rfl, dnq hGw106 rfl rfl rfl⟩
      · intro w108 hE
        rintro _ rfl
        rintro _ rfl
        rintro _ rfl
        intro RR
        refine WL.take rfl <| WL.neqB (r := ((decide (r36 = (0 : Int))) != r105)) rfl rfl XU4 rfl rfl ?_
        exact WL.done ⟨_, rfl, dnq rfl rfl rfl rfl⟩
      intro w109 hE
      rintro _ rfl
      rintro _ rfl
      intro RR
      refine WL.pick rfl rfl rfl ?_
      exact WL.done ⟨_, rfl, dnq rfl rfl rfl rfl⟩
    intro vals w110 hT hVs hAp hCp
    have hS := hS.grow hT
    have hv0 : vals 0 = _ := hVs 0 (by decide)
    have hv1 : vals 1 = _ := hVs 1 (by decide)
    have hv2 : vals 2 = _ := hVs 2 (by decide)
    have hv3 : vals 3 = _ := hVs 3 (by decide)
    have hv4 : vals 4 = _ := hVs 4 (by decide)
    have hv5 : vals 5 = _ := hVs 5 (by decide)
    have hv6 : vals 6 = _ := hVs 6 (by decide)
    have hv7 : vals 7 = _ := hVs 7 (by decide)
    have hv8 : vals 8 = _ := hVs 8 (by decide)
    have hv9 : vals 9 = _ := hVs 9 (by decide)
    obtain ⟨A84_10, k85_10, hv10, hO88_10, hN89_10⟩ := hVs 10 (by decide)
    have hv11 : vals 11 = _ := hVs 11 (by decide)
    have hv12 : vals 12 = _ := hVs 12 (by decide)
    have hv13 : vals 13 = _ := hVs 13 (by decide)
    have hv14 : vals 14 = _ := hVs 14 (by decide)
    obtain ⟨A97_15, k98_15, hv15, hO101_15, hN102_15⟩ := hVs 15 (by decide)
    have hv16 : vals 16 = _ := hVs 16 (by decide)
    have hv17 : vals 17 = _ := hVs 17 (by decide)
    have hv18 : vals 18 = _ := hVs 18 (by decide)
    show WA _ _ _ _ _ _ _ _ ([(104, vals 0), (105, vals 1), (106, vals 2), (107, vals 3), (108, vals 4), (109, vals 5), (110, vals 6), (111, vals 7), (112, vals 8), (113, vals 9), (114, vals 10), (115, vals 11), (116, vals 12), (117, vals 13), (118, vals 14), (119, vals 15), (120, vals 16), (121, vals 17), (122, vals 18)] ++ _) _
    rw [hv0, hv1, hv2, hv3, hv4, hv5, hv6, hv7, hv8, hv9, hv10, hv11, hv12, hv13, hv14, hv15, hv16, hv17, hv18]
    refine WA.done (by decide +kernel) <| W.cond2 rfl (fun c111 => ?_) (fun c111 => ?_)
    ·have hv := hv.1 (c111)
     refine W.seq <| W.region <| WL.assign rfl rfl <| WL.done <| W.ret <| ⟨_, rfl, Fin.nil ?_⟩
     exact ⟨_, hS.ext, (hS.pick [] rfl).rows, News.of (hS.pick [] rfl).rows rfl, ⟨false, rfl, rfl, hv⟩⟩
    have hv := hv.2 (c111)
    refine W.skip <| W.seq <| W.region <| WL.move rfl rfl <| WL.move rfl rfl <| WL.move rfl rfl ?_
    obtain ⟨o112, hv⟩ := hv
    refine WL.add (r := (r36 + r42)) rfl rfl (wr o112) rfl <| WL.leqD rfl rfl rfl <| WL.assign rfl rfl <| WL.done <| W.ret <| ⟨_, rfl, Fin.nil ?_⟩
    exact ⟨_, hS.ext, (hS.pick [] rfl).rows, News.of (hS.pick [] rfl).rows rfl, ⟨(decide (r45 ≤ (r36 + r42))), rfl, rfl, hv⟩⟩
end Go.Proofs.Ytcmfjjbbcfddpaa
set_option linter.unusedVariables false
set_option linter.unusedSimpArgs false
namespace Go.Proofs.Ytcmfjjbbcfddpaa
section
variable {P M : Int} {mf : List Int}
theorem dist_ex {q : Nat} (hq : 2 ≤ q) : cnp (dff q [1, 0, 1] [0, 0, 1]) 3 = 1 := by
  have a0 : dff q [1, 0, 1] [0, 0, 1] 0 = true := decide_eq_true (by show inE q 1 ≠ inE q 0; rw [inE_1 hq, inE_0 hq]; decide)
  have a1 : dff q [1, 0, 1] [0, 0, 1] 1 = false := decide_eq_false (fun h => h rfl)
  have a2 : dff q [1, 0, 1] [0, 0, 1] 2 = false := decide_eq_false (fun h => h rfl)
  rw [cnp_succ, cnp_succ, cnp_succ, a0, a1, a2]; rfl
theorem w_distEx {F : GFv} {p m v g : Nat} (K : GFk F p m v g) {Q : Int × Int → Prop} (h : Q (1, 0)) : V_Distance F [1, 0, 1] [0, 0, 1] Q := by
  refine v_Distance K (by simp [LB]) (fun e => absurd rfl e) fun _ => ?_
  rw [show cnp (dff (p ^ m) [1, 0, 1] [0, 0, 1]) [(1 : Int), 0, 1].length = 1 from dist_ex K.fv.ring.q2]
  exact h
end
end Go.Proofs.Ytcmfjjbbcfddpaa
set_option linter.unusedVariables false
set_option linter.unusedSimpArgs false
namespace Go.Proofs.Ytcmfjjbbcfddpaa
/-! ### the laws about three words -/
section
variable {P M : Int} {mf : List Int}
theorem dff_swap (q : Nat) (a b : List Int) (k : Nat) : cnp (dff q a b) k = cnp (dff q b a) k := cnp_congr fun i _ => by unfold dff; rw [decide_eq_decide]; exact ne_comm
theorem dff_zero {q : Nat} {a b : List Int} (e : a.length = b.length) : cnp (dff q a b) a.length = 0 ↔ cl q a = cl q b := by
  rw [cnp_zero]
  constructor
  · intro h
    refine vo_ext (by rw [cl_len, cl_len, e]) fun i hi => ?_
    rw [cl_len] at hi
    have h1 := of_decide_eq_false (h i hi)
    rw [cl_at hi, cl_at (by omega), Decidable.not_not.1 h1]
  · intro h i hi
    have h1 := cl_at (q := q) hi
    have h2 := cl_at (q := q) (show i < b.length by omega)
    rw [h, h2] at h1
    exact decide_eq_false (by omega)
theorem law_WordTriangle {a b c : List Int} (ha : a.length ≤ LB) (hb : b.length ≤ LB) (hc : c.length ≤ LB) : V_LTriangle P M mf a b c (fun b => b = true) := by
  refine w_open (fun _ => rfl) fun F p m v g K hF => w_distEx K ⟨fun e => absurd rfl e, fun _ => ⟨fun e => absurd rfl e, fun _ => ⟨fun _ => rfl, fun e1 => ⟨fun _ => rfl, fun e2 => ?_⟩⟩⟩⟩
  have e1 : a.length = b.length := by omega
  have e2 : b.length = c.length := by omega
  refine v_Distance K ha (fun e => absurd e1 e) fun _ => v_Distance K hb (fun e => absurd e1.symm e) fun _ => v_Distance K hb (fun e => absurd e2 e) fun _ => v_Distance K ha (fun e => absurd (e1.trans e2) e) fun _ => ?_
  refine ⟨fun e => absurd rfl e, fun _ => ⟨fun e => absurd rfl e, fun _ => ⟨fun e => absurd rfl e, fun _ => ⟨fun e => absurd rfl e, fun _ => ⟨fun e => absurd ?_ e, fun _ => ⟨_, v_rClean hF ha rfl, _, v_rClean hF hb rfl, _, v_rwSame (by rw [cl_len]; exact LB62 ha) rfl, fun e => ?_, fun _ => ⟨?_, ?_⟩⟩⟩⟩⟩⟩⟩
  · rw [← e1, dff_swap]
  · have hz := dff_zero (q := p ^ m) e1
    have hd : decide (((cnp (dff (p ^ m) a b) a.length : Nat) : Int) = 0) = decide (cl (p ^ m) a = cl (p ^ m) b) := decide_eq_decide.2 (by rw [← hz]; omega)
    rw [hd] at e
    simp at e
  · have h1 := cnp_le (dff (p ^ m) a b) a.length
    have h2 := cnp_le (dff (p ^ m) b c) b.length
    unfold LB at ha hb
    exact ⟨by omega, by omega⟩
  · rw [← e1]
    refine decide_eq_true ?_
    have := cnp_tri (f := dff (p ^ m) a c) (g := dff (p ^ m) a b) (h := dff (p ^ m) b c) (k := a.length) fun i _ h => by
      have h := of_decide_eq_true h
      by_cases d : inE (p ^ m) (vo a i) = inE (p ^ m) (vo b i)
      · exact .inr (decide_eq_true (by rw [← d]; exact h))
      · exact .inl (decide_eq_true d)
    omega
end
end Go.Proofs.Ytcmfjjbbcfddpaa
