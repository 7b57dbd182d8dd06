/- What only this law leans on. -/
import Derived.Test.YtcmfjjbbcfddpaaWordCleansG7
namespace Go.Proofs.Ytcmfjjbbcfddpaa
open Go.RowKit

section
variable {P : Program} {n : Nat} {ro : Option Nat} {df : List Deferred} {N : Post} {L : Fr} {w : World} {ops : Array Oper} {rest : List Oper}
variable {d : Nat} {ty : TypeId} {pos : String} {af : Array Edge}

theorem run_equalIn_bool {P : Program} {w : World} {t : TypeId} (ht : P.underlying t = some .bool) (k : Nat) (a b : Bool) : (Op.equalIn (k + 1) t (.bool a) (.bool b)).run P w = .ok (a == b) w := by
  rw [Op.equalIn]
  simp [run_underlying ht]
theorem run_equal_bool {P : Program} {w : World} {t : TypeId} (ht : P.underlying t = some .bool) (a b : Bool) : (Op.equal t (.bool a) (.bool b)).run P w = .ok (a == b) w := run_equalIn_bool ht 9999 a b
theorem WL.neqB {x y : Operand} {a b r : Bool} {tx tb : TypeId} (hx : ev L x = some (.bool a)) (hy : ev L y = some (.bool b)) (ht : P.underlying tx = some .bool) (hr : (a != b) = r) (hn : Nat.blt d n = true) (h : WL P n ro df ops rest N ((d, .bool r) :: L) w) :
    WL P n ro df ops (⟨some d, .binOp .neq tx x y tb, ty, pos, af, none⟩ :: rest) N L w :=
  WL.val rfl rfl hn (fun _ ha => by subst hr; cases a <;> cases b <;> simp [execOp, eqGuard, binOp, ha.ev hx, ha.ev hy, run_equal_bool ht]) h
end
end Go.Proofs.Ytcmfjjbbcfddpaa
set_option linter.unusedVariables false
namespace Go.Proofs.Ytcmfjjbbcfddpaa
open Go.RowKit
theorem Try.nm40 : (Try.f40.name == "runtime.NumGoroutine") = false := by kernel_rfl
end Go.Proofs.Ytcmfjjbbcfddpaa
namespace Go.Proofs.Ytcmfjjbbcfddpaa
open Go.RowKit
abbrev XF10 := Try.func10
abbrev XF40 := Try.func40
abbrev XN40 := Try.nm40
end Go.Proofs.Ytcmfjjbbcfddpaa
set_option linter.unusedSimpArgs false
set_option linter.unusedVariables false
set_option maxRecDepth 4000
set_option maxHeartbeats 4000000
namespace Go.Proofs.Ytcmfjjbbcfddpaa
open Go.RowKit
def V_rIndex (Pf : Int) (Mf : Int) (mf : List Int) (l : List Int) (Q : Int × Int → Prop) : Prop :=
  V_rCount Pf Mf mf ((l.length : Nat) : Int) (fun q => match q with | (r14, r15) => ((r15 ≠ (0 : Int)) → (Q ((0 : Int), r15))) ∧ (¬ (r15 ≠ (0 : Int)) → (V_rOrder Pf Mf mf (fun r18 => V_rClean Pf Mf mf l (fun x20 => ∃ (I30 : Int → Int → Prop) (μ31 : Int → Int → Nat), I30 (0 : Int) (0 : Int) ∧ ∀ (z28 : Int) (z29 : Int), (I30 z28 z29 → (((z29 < ((x20.length : Nat) : Int)) → ((I64 (z28 * r18)) ∧ ((0 ≤ z29 ∧ z29 < (x20.length : Nat)) ∧ ((I64 ((z28 * r18) + (gi x20 z29))) ∧ ((I64 (z29 + (1 : Int))) ∧ (I30 ((z28 * r18) + (gi x20 z29)) (z29 + (1 : Int)) ∧ μ31 ((z28 * r18) + (gi x20 z29)) (z29 + (1 : Int)) < μ31 z28 z29)))))) ∧ (¬ (z29 < ((x20.length : Nat) : Int)) → (Q (z28, (0 : Int)))))))))))
theorem ok_rIndex {w : World} {Q : Int × Int → Prop} {Pf : Int} {Mf : Int} {mf : List Int} {l : List Int} {Bf : Nat} {Af : Option Addr} {nf kf : Nat} (hf : Rd Bf w 1 Af nf kf (is mf)) {Bl : Nat} {Al : Option Addr} {nl kl : Nat} (hl : Rd Bl w 1 Al nl kl (is l)) (hv : V_rIndex Pf Mf mf l Q) :
    Calls Try.prog 40 #[.agg #[.int .i64 Pf, .int .i64 Mf, .slice Af nf kf], .slice Al nl kl] w fun e w' => ∃ v Qr, e = .returned v ∧ w.grownBy w' none ∧ Rows w.heap.size none w' Qr ∧ News w.heap.size Qr ∧ ∃ (r0 : Int) (r1 : Int), v = .tuple #[.int .i64 r0, .int .i64 r1] ∧ Qr = [] ∧ Q (r0, r1) := by
  have hnf := hf.ilen
  subst hnf
  have hnl := hl.ilen
  subst hnl
  refine calls_swap <| calls_of_W (vs := [.agg #[.int .i64 Pf, .int .i64 Mf, .slice Af mf.length kf], .slice Al l.length kl]) [4, 5] XF40 rfl rfl rfl rfl ?_
  have hS := St.start w
  unfold V_rIndex at hv
  refine W.seq <| W.region <| SL.box (z := 3) (cs := [.int .i64 Pf, .int .i64 Mf, .slice Af mf.length kf]) hS rfl rfl rfl rfl ?_
  intro g11 w12 hS
  refine WL.assign rfl rfl <| WL.assign rfl rfl <| WL.done <| W.seq <| W.region <| WL.loadV (cs := [.int .i64 Pf, .int .i64 Mf, .slice Af mf.length kf]) XE24 XG24 rfl rfl (Own.vcells (hS.own (i := 0) rfl)) rfl <| WL.move rfl rfl <| WL.len XU22 rfl rfl <| SL.call hS (ok_rCount (hS.ro hf) hv) XF36 rfl XN36 rfl rfl ?_
  rintro _ _ w13 ⟨r14, r15, rfl, rfl, hv⟩ hGw13 hS
  have hS := hS.n0
  refine WL.move rfl rfl <| WL.extract rfl rfl rfl <| WL.extract rfl rfl rfl <| WL.assign rfl rfl <| WL.assign rfl rfl <| WL.done <| W.seq <| W.seq <| W.region <| WL.move rfl rfl <| WL.neqD rfl rfl rfl <| WL.done <| W.cond2 rfl (fun c16 => ?_) (fun c16 => ?_)
  ·have hv := hv.1 (of_decide_eq_true c16)
   refine W.seq <| W.region <| WL.move rfl rfl <| WL.assign rfl rfl <| WL.assign rfl rfl <| WL.done <| W.ret <| ⟨_, rfl, Fin.nil ?_⟩
   exact ⟨_, hS.ext, (hS.pick [] rfl).rows, News.of (hS.pick [] rfl).rows rfl, ⟨(0 : Int), r15, rfl, rfl, hv⟩⟩
  have hv := hv.2 (of_decide_eq_false c16)
  refine W.skip <| W.seq <| W.region <| WL.loadV (cs := [.int .i64 Pf, .int .i64 Mf, .slice Af mf.length kf]) XE24 XG24 rfl rfl (Own.vcells (hS.own (i := 0) rfl)) rfl <| SL.call hS (ok_rOrder (hS.ro hf) hv) XF42 rfl XN42 rfl rfl ?_
  rintro _ _ w17 ⟨r18, rfl, rfl, hv⟩ hGw17 hS
  have hS := hS.n0
  refine WL.assign rfl rfl <| WL.done <| W.seq <| W.region <| WL.loadV (cs := [.int .i64 Pf, .int .i64 Mf, .slice Af mf.length kf]) XE24 XG24 rfl rfl (Own.vcells (hS.own (i := 0) rfl)) rfl <| WL.move rfl rfl <| SL.call hS (ok_rClean (hS.ro hf) (hS.ro hl) hv) XF20 rfl XN20 rfl rfl ?_
  rintro _ _ w19 ⟨x20, A21, k22, rfl, rfl, hv⟩ hGw19 hS
  have hS := hS.n1
  refine WL.assign rfl rfl <| WL.done <| W.seq <| W.region <| WL.assign rfl rfl <| WL.done <| W.seq <| W.seq <| W.region <| WL.assign rfl rfl <| WL.done <| W.block ?_
  obtain ⟨I30, μ31, hv, hk38⟩ := hv
  refine W.loop (σ := Int × Int) (fun q w1 => match q with | (z28, z29) => I30 z28 z29 ∧ St TT w none w1 [.row 3 1 A21 x20.length k22 (is x20), .row 24 3 (some ⟨g11, 0, none⟩) 1 1 [.int .i64 Pf, .int .i64 Mf, .slice Af mf.length kf]]) (fun q => match q with | (z28, z29) => [(4, .int .i64 (0 : Int)), (5, .int .i64 (0 : Int)), (8, .int .i64 r18), (9, .slice A21 x20.length k22), (10, .int .i64 z28), (11, .int .i64 z29)]) (fun q => match q with | (z28, z29) => μ31 z28 z29) ((0 : Int), (0 : Int)) ⟨hv, hS⟩ ⟨rfl, rfl, rfl, rfl, rfl, rfl, trivial⟩ ?_
  rintro ⟨z28, z29⟩ w32 ⟨hv, hS⟩
  have hv := hk38 z28 z29 hv
  refine W.seq <| W.seq <| W.region <| WL.move rfl rfl <| WL.move rfl rfl <| WL.len XU22 rfl rfl <| WL.lssD rfl rfl rfl <| WL.done <| W.cond2 rfl (fun c33 => ?_) (fun c33 => ?_)
  ·have hv := hv.1 (of_decide_eq_true c33)
   refine W.skip <| W.seq <| W.block <| W.region <| WL.move rfl rfl <| WL.move rfl rfl ?_
   obtain ⟨o34, hv⟩ := hv
   refine WL.mul (r := (z28 * r18)) rfl rfl (wr o34) rfl <| WL.move rfl rfl <| WL.move rfl rfl ?_
   obtain ⟨o35, hv⟩ := hv
   refine SL.index XU22 XE3 (hS.rd (i := 0) rfl) rfl rfl o35 rfl <| WL.load XU3 rfl rfl (Rd.gi (hS.rd (i := 0) rfl) o35) rfl ?_
   obtain ⟨o36, hv⟩ := hv
   refine WL.add (r := ((z28 * r18) + (gi x20 z29))) rfl rfl (wr o36) rfl <| WL.assign rfl rfl <| WL.done <| W.region <| WL.move rfl rfl ?_
   obtain ⟨o37, hv⟩ := hv
   refine WL.add (r := (z29 + (1 : Int))) rfl rfl (wr o37) rfl <| WL.assign rfl rfl <| WL.done ?_
   exact ⟨(((z28 * r18) + (gi x20 z29)), (z29 + (1 : Int))), ⟨rfl, rfl, rfl, rfl, rfl, rfl, trivial⟩, hv.2, rfl, hv.1, hS⟩
  have hv := hv.2 (of_decide_eq_false c33)
  refine W.exit <| W.seq <| W.region <| WL.move rfl rfl <| WL.assign rfl rfl <| WL.assign rfl rfl <| WL.done <| W.ret <| ⟨_, rfl, Fin.nil ?_⟩
  exact ⟨_, hS.ext, (hS.pick [] rfl).rows, News.of (hS.pick [] rfl).rows rfl, ⟨z28, (0 : Int), rfl, rfl, hv⟩⟩
end Go.Proofs.Ytcmfjjbbcfddpaa
set_option linter.unusedVariables false
set_option linter.unusedSimpArgs false
namespace Go.Proofs.Ytcmfjjbbcfddpaa
/-! ### inner products -/
section
variable {P M : Int} {mf : List Int} {p m v : Nat}
end
section
variable {F : GFv} {p m v g : Nat}
end
theorem v_rIndex {P M : Int} {mf : List Int} {p m v : Nat} (F : FV P M mf p m v) {l : List Int} {Q : Int × Int → Prop} (hl : l.length ≤ LB) (h : Q (ixS (p ^ m) l)) : V_rIndex P M mf l Q := by
  have hq2 := F.ring.q2
  refine v_rCount F ?_
  have hq256 := F.q
  unfold ixS at h
  generalize hc : cW (p ^ m) l.length = c at h ⊢
  obtain ⟨c1, c2⟩ := c
  refine ⟨fun e => by rw [if_neg e] at h; exact h, fun e => ?_⟩
  have e : c2 = 0 := by simpa using e
  rw [if_pos e] at h
  obtain ⟨hn, hle, _⟩ := cW_ok (q := p ^ m) (n := l.length) (by rw [hc]; exact e)
  refine v_rOrder (v_rClean F hl ?_)
  rw [F.ord]
  have hcl := cl_len (p ^ m) l
  have hd := cl_dig (by omega) l (q := p ^ m)
  generalize p ^ m = q at *
  generalize cl q l = d at *
  refine ⟨fun z i => ∃ k : Nat, i = k ∧ k ≤ d.length ∧ z = hv q (d.take k), fun z i => (d.length - i).toNat, ⟨0, rfl, Nat.zero_le _, rfl⟩, ?_⟩
  rintro _ _ ⟨k, rfl, hk, rfl⟩
  dsimp only
  rw [gi_nat]
  refine ⟨fun hlt => ?_, fun hge => by rw [List.take_of_length_le (by omega)]; exact h⟩
  obtain ⟨s1, s2, s3⟩ := hv_step hq2 hd hcl hle (k := k) (by omega)
  exact ⟨⟨by omega, by omega⟩, ⟨by omega, by omega⟩, ⟨by omega, by omega⟩, ⟨by omega, by omega⟩, ⟨k + 1, by push_cast; rfl, by omega, (hv_take (by omega)).symm⟩, by omega⟩
/-- Words of one length are ordered as their numbers. -/
theorem lex_hv {q : Nat} : ∀ {a b : List Int}, a.length = b.length → Dig q a → Dig q b → (lex a b < 0 ↔ hv q a < hv q b) ∧ (lex a b = 0 ↔ hv q a = hv q b)
  | [], [], _, _, _ => by simp [lex, hv]
  | [], _ :: _, h, _, _ => by simp at h
  | _ :: _, [], h, _, _ => by simp at h
  | x :: a, y :: b, h, ha, hb => by
    have hl : a.length = b.length := by simpa using h
    have ha' : Dig q a := fun z hz => ha z (List.mem_cons_of_mem _ hz)
    have hb' : Dig q b := fun z hz => hb z (List.mem_cons_of_mem _ hz)
    obtain ⟨i1, i2⟩ := lex_hv hl ha' hb'
    have b1 := hv_bd ha'
    have b2 := hv_bd hb'
    rw [lex_cons]
    unfold hv
    rw [hl] at *
    generalize hS : (q ^ b.length : Nat) = S at *
    by_cases c : x < y
    · have e := Int.mul_le_mul_of_nonneg_right (show x + 1 ≤ y by omega) (show (0 : Int) ≤ (S : Int) by omega)
      rw [Int.add_mul, Int.one_mul] at e
      rw [if_pos c]; exact ⟨⟨fun _ => by omega, fun _ => by decide⟩, ⟨fun h => by simp at h, fun h => by omega⟩⟩
    · rw [if_neg c]
      by_cases d : y < x
      · have e := Int.mul_le_mul_of_nonneg_right (show y + 1 ≤ x by omega) (show (0 : Int) ≤ (S : Int) by omega)
        rw [Int.add_mul, Int.one_mul] at e
        rw [if_pos d]; exact ⟨⟨fun h => by simp at h, fun h => by omega⟩, ⟨fun h => by simp at h, fun h => by omega⟩⟩
      · rw [if_neg d]
        obtain rfl : x = y := by omega
        rw [i1, i2]; omega
end Go.Proofs.Ytcmfjjbbcfddpaa
set_option linter.unusedSimpArgs false
set_option linter.unusedVariables false
set_option maxRecDepth 4000
set_option maxHeartbeats 4000000
namespace Go.Proofs.Ytcmfjjbbcfddpaa
open Go.RowKit
def V_LIndexes (Pf : Int) (Mf : Int) (mf : List Int) (a : List Int) (b : List Int) (Q : Bool → Prop) : Prop :=
  V_open Pf Mf mf (fun q => match q with | (none, r15) => Q r15 | (some F16, _) => V_Index F16 a (fun q => match q with | (r23, r24) => V_rIndex Pf Mf mf a (fun q => match q with | (r26, r27) => ((r23 ≠ r26) → Q false) ∧ (¬ (r23 ≠ r26) → (((r24 ≠ r27) → Q false) ∧ (¬ (r24 ≠ r27) → (V_Index F16 b (fun q => match q with | (r31, r32) => V_rIndex Pf Mf mf b (fun q => match q with | (r34, r35) => ((r31 ≠ r34) → Q false) ∧ (¬ (r31 ≠ r34) → (((r32 ≠ r35) → Q false) ∧ (¬ (r32 ≠ r35) → (((((a.length : Nat) : Int) = ((b.length : Nat) : Int)) → (∃ J39 : Prop, (((r27 = (0 : Int)) → (V_Clean F16 a (fun x42 => V_Clean F16 b (fun x47 => V_Compare x42 x47 (fun r52 => ((((decide (r52 < (0 : Int))) != (decide (r23 < r31))) = true) → Q false) ∧ (((decide (r52 < (0 : Int))) != (decide (r23 < r31))) = false → (((((decide (r52 = (0 : Int))) != (decide (r23 = r31))) = true) → Q false) ∧ (((decide (r52 = (0 : Int))) != (decide (r23 = r31))) = false → J39)))))))) ∧ (¬ (r27 = (0 : Int)) → J39)) ∧ (J39 → (V_Index F16 ([(0 : Int), (1 : Int)] : List Int) (fun q => match q with | (r60, r61) => ((r60 = (1 : Int)) → (Q (decide (r61 = (0 : Int))))) ∧ (¬ (r60 = (1 : Int)) → Q false)))))) ∧ (¬ (((a.length : Nat) : Int) = ((b.length : Nat) : Int)) → (V_Index F16 ([(0 : Int), (1 : Int)] : List Int) (fun q => match q with | (r68, r69) => ((r68 = (1 : Int)) → (Q (decide (r69 = (0 : Int))))) ∧ (¬ (r68 = (1 : Int)) → Q false)))))))))))))))))
theorem ok_LIndexes {w : World} {Q : Bool → Prop} {Pf : Int} {Mf : Int} {mf : List Int} {a : List Int} {b : List Int} {Bf : Nat} {Af : Option Addr} {nf kf : Nat} (hf : Rd Bf w 1 Af nf kf (is mf)) {Ba : Nat} {Aa : Option Addr} {na ka : Nat} (ha : Rd Ba w 1 Aa na ka (is a)) {Bb : Nat} {Ab : Option Addr} {nb kb : Nat} (hb : Rd Bb w 1 Ab nb kb (is b)) (hv : V_LIndexes Pf Mf mf a b Q) :
    Calls Try.prog 10 #[.agg #[.int .i64 Pf, .int .i64 Mf, .slice Af nf kf], .slice Aa na ka, .slice Ab nb kb] w fun e w' => ∃ v Qr, e = .returned v ∧ w.grownBy w' none ∧ Rows w.heap.size none w' Qr ∧ News w.heap.size Qr ∧ ∃ (r0 : Bool), v = .bool r0 ∧ Qr = [] ∧ Q r0 := by
  have hnf := hf.ilen
  subst hnf
  have hna := ha.ilen
  subst hna
  have hnb := hb.ilen
  subst hnb
  refine calls_swap <| calls_of_W (vs := [.agg #[.int .i64 Pf, .int .i64 Mf, .slice Af mf.length kf], .slice Aa a.length ka, .slice Ab b.length kb]) [6] XF10 rfl rfl rfl rfl ?_
  have hS := St.start w
  unfold V_LIndexes at hv
  refine W.seq <| W.region <| SL.box (z := 3) (cs := [.int .i64 Pf, .int .i64 Mf, .slice Af mf.length kf]) hS rfl rfl rfl rfl ?_
  intro g11 w12 hS
  refine WL.assign rfl rfl <| WL.done <| W.seq <| W.region <| WL.loadV (cs := [.int .i64 Pf, .int .i64 Mf, .slice Af mf.length kf]) XE24 XG24 rfl rfl (Own.vcells (hS.own (i := 0) rfl)) rfl <| SL.call hS (ok_open (hS.ro hf) hv) XF17 rfl XN17 rfl rfl ?_
  rintro _ _ w14 ⟨o, r15, hv, hK⟩ hGw14 hS
  cases o with
  | none =>
    obtain ⟨rfl, rfl⟩ := hK
    change St _ _ _ _ [.row 24 3 (some ⟨g11, 0, none⟩) 1 1 [.int .i64 Pf, .int .i64 Mf, .slice Af mf.length kf]] at hS
    refine WL.move rfl rfl <| WL.extract rfl rfl rfl <| WL.extract rfl rfl rfl <| WL.extract rfl rfl rfl <| WL.assign rfl rfl <| WL.assign rfl rfl <| WL.assign rfl rfl <| WL.done <| W.seq <| W.seq <| W.region <| WL.move rfl rfl <| WL.done <| W.condT rfl <| W.seq <| W.region <| WL.move rfl rfl <| WL.assign rfl rfl <| WL.done <| W.ret <| ⟨_, rfl, Fin.nil ?_⟩
    exact ⟨_, hS.ext, (hS.pick [] rfl).rows, News.of (hS.pick [] rfl).rows rfl, ⟨r15, rfl, rfl, hv⟩⟩
  | some F16 =>
    obtain ⟨ad17, lo18, hi19, rfl, rfl⟩ := hK
    change St _ _ _ _ [.ch lo18 hi19 (fun wz => GFX lo18 hi19 wz ad17 F16), .row 24 3 (some ⟨g11, 0, none⟩) 1 1 [.int .i64 Pf, .int .i64 Mf, .slice Af mf.length kf]] at hS
    refine WL.move rfl rfl <| WL.extract rfl rfl rfl <| WL.extract rfl rfl rfl <| WL.extract rfl rfl rfl <| WL.assign rfl rfl <| WL.assign rfl rfl <| WL.assign rfl rfl <| WL.done <| W.seq <| W.seq <| W.region <| WL.move rfl rfl <| WL.done <| W.condF rfl <| W.skip <| W.seq <| W.region <| WL.move rfl rfl <| WL.move rfl rfl <| SL.call hS (ok_Index (GFX.gfr (hS.chunk (i := 0) rfl)) (hS.ro ha) hv) XF39 rfl XN39 rfl rfl ?_
    rintro _ _ w22 ⟨r23, r24, rfl, rfl, hv⟩ hGw22 hS
    have hS := hS.n0
    refine WL.move rfl rfl <| WL.extract rfl rfl rfl <| WL.extract rfl rfl rfl <| WL.assign rfl rfl <| WL.assign rfl rfl <| WL.done <| W.seq <| W.region <| WL.loadV (cs := [.int .i64 Pf, .int .i64 Mf, .slice Af mf.length kf]) XE24 XG24 rfl rfl (Own.vcells (hS.own (i := 1) rfl)) rfl <| WL.move rfl rfl <| SL.call hS (ok_rIndex (hS.ro hf) (hS.ro ha) hv) XF40 rfl XN40 rfl rfl ?_
    rintro _ _ w25 ⟨r26, r27, rfl, rfl, hv⟩ hGw25 hS
    have hS := hS.n0
    refine WL.move rfl rfl <| WL.extract rfl rfl rfl <| WL.extract rfl rfl rfl <| WL.assign rfl rfl <| WL.assign rfl rfl <| WL.done <| W.seq <| W.seq <| W.region <| WL.move rfl rfl <| WL.move rfl rfl <| WL.neqD rfl rfl rfl <| WL.move rfl rfl ?_
    by_cases g28 : r23 ≠ r26
    ·have hv := hv.1 g28
     rw [decide_eq_true g28]
     refine WL.pass rfl rfl rfl <| WL.pass rfl rfl rfl <| WL.pass rfl rfl rfl <| WL.pick rfl rfl rfl <| WL.done <| W.condT rfl <| W.seq <| W.region <| WL.assign rfl rfl <| WL.done <| W.ret <| ⟨_, rfl, Fin.nil ?_⟩
     exact ⟨_, hS.ext, (hS.pick [] rfl).rows, News.of (hS.pick [] rfl).rows rfl, ⟨false, rfl, rfl, hv⟩⟩
    have hv := hv.2 g28
    rw [decide_eq_false g28]
    refine WL.take rfl <| WL.move rfl rfl <| WL.take rfl <| WL.move rfl rfl <| WL.take rfl <| WL.neqD rfl rfl rfl <| WL.pick rfl rfl rfl <| WL.done <| W.cond2 rfl (fun c29 => ?_) (fun c29 => ?_)
    ·have hv := hv.1 (of_decide_eq_true c29)
     refine W.seq <| W.region <| WL.assign rfl rfl <| WL.done <| W.ret <| ⟨_, rfl, Fin.nil ?_⟩
     exact ⟨_, hS.ext, (hS.pick [] rfl).rows, News.of (hS.pick [] rfl).rows rfl, ⟨false, rfl, rfl, hv⟩⟩
    have hv := hv.2 (of_decide_eq_false c29)
    refine W.skip <| W.seq <| W.region <| WL.move rfl rfl <| WL.move rfl rfl <| SL.call hS (ok_Index (GFX.gfr (hS.chunk (i := 0) rfl)) (hS.ro hb) hv) XF39 rfl XN39 rfl rfl ?_
    rintro _ _ w30 ⟨r31, r32, rfl, rfl, hv⟩ hGw30 hS
    have hS := hS.n0
    refine WL.move rfl rfl <| WL.extract rfl rfl rfl <| WL.extract rfl rfl rfl <| WL.assign rfl rfl <| WL.assign rfl rfl <| WL.done <| W.seq <| W.region <| WL.loadV (cs := [.int .i64 Pf, .int .i64 Mf, .slice Af mf.length kf]) XE24 XG24 rfl rfl (Own.vcells (hS.own (i := 1) rfl)) rfl <| WL.move rfl rfl <| SL.call hS (ok_rIndex (hS.ro hf) (hS.ro hb) hv) XF40 rfl XN40 rfl rfl ?_
    rintro _ _ w33 ⟨r34, r35, rfl, rfl, hv⟩ hGw33 hS
    have hS := hS.n0
    refine WL.move rfl rfl <| WL.extract rfl rfl rfl <| WL.extract rfl rfl rfl <| WL.assign rfl rfl <| WL.assign rfl rfl <| WL.done <| W.seq <| W.seq <| W.region <| WL.move rfl rfl <| WL.move rfl rfl <| WL.neqD rfl rfl rfl <| WL.move rfl rfl ?_
    by_cases g36 : r31 ≠ r34
    ·have hv := hv.1 g36
     rw [decide_eq_true g36]
     refine WL.pass rfl rfl rfl <| WL.pass rfl rfl rfl <| WL.pass rfl rfl rfl <| WL.pick rfl rfl rfl <| WL.done <| W.condT rfl <| W.seq <| W.region <| WL.assign rfl rfl <| WL.done <| W.ret <| ⟨_, rfl, Fin.nil ?_⟩
     exact ⟨_, hS.ext, (hS.pick [] rfl).rows, News.of (hS.pick [] rfl).rows rfl, ⟨false, rfl, rfl, hv⟩⟩
    have hv := hv.2 g36
    rw [decide_eq_false g36]
    refine WL.take rfl <| WL.move rfl rfl <| WL.take rfl <| WL.move rfl rfl <| WL.take rfl <| WL.neqD rfl rfl rfl <| WL.pick rfl rfl rfl <| WL.done <| W.cond2 rfl (fun c37 => ?_) (fun c37 => ?_)
    ·have hv := hv.1 (of_decide_eq_true c37)
     refine W.seq <| W.region <| WL.assign rfl rfl <| WL.done <| W.ret <| ⟨_, rfl, Fin.nil ?_⟩
     exact ⟨_, hS.ext, (hS.pick [] rfl).rows, News.of (hS.pick [] rfl).rows rfl, ⟨false, rfl, rfl, hv⟩⟩
    have hv := hv.2 (of_decide_eq_false c37)
    refine W.skip <| W.seq <| W.seq <| W.region <| WL.move rfl rfl <| WL.len XU22 rfl rfl <| WL.move rfl rfl <| WL.len XU22 rfl rfl <| WL.eqlD rfl rfl rfl <| WL.move rfl rfl ?_
    by_cases g38 : ((a.length : Nat) : Int) = ((b.length : Nat) : Int)
    ·have hv := hv.1 g38
     rw [decide_eq_true g38]
     refine WL.take rfl <| WL.move rfl rfl <| WL.take rfl <| WL.eqlD rfl rfl rfl <| WL.pick rfl rfl rfl <| WL.done ?_
     obtain ⟨J39, hv, hk63⟩ := hv
     refine W.cutN (σ := Unit) (fun _ w1 => J39 ∧ St TT w none w1 [.ch lo18 hi19 (fun wz => GFX lo18 hi19 wz ad17 F16), .row 24 3 (some ⟨g11, 0, none⟩) 1 1 [.int .i64 Pf, .int .i64 Mf, .slice Af mf.length kf]]) (fun _ => [(6, .bool false), (7, .pointer (some ad17))]) ?_ ?_
     ·refine W.cond2 rfl (fun c40 => ?_) (fun c40 => ?_)
      ·have hv := hv.1 (of_decide_eq_true c40)
       refine W.seq <| W.region <| WL.move rfl rfl <| WL.move rfl rfl <| SL.call hS (ok_Clean (GFX.gfr (hS.chunk (i := 0) rfl)) (hS.ro ha) hv) XF19 rfl XN19 rfl rfl ?_
       rintro _ _ w41 ⟨x42, A43, k44, rfl, rfl, hv⟩ hGw41 hS
       have hS := hS.n1
       refine WL.move rfl rfl <| WL.move rfl rfl <| SL.call hS (ok_Clean (GFX.gfr (hS.chunk (i := 1) rfl)) (hS.ro hb) hv) XF19 rfl XN19 rfl rfl ?_
       rintro _ _ w46 ⟨x47, A48, k49, rfl, rfl, hv⟩ hGw46 hS
       have hS := hS.n1
       refine SL.call hS (ok_Compare (hS.rd (i := 1) rfl) (hS.rd (i := 0) rfl) hv) XF33 rfl XN33 rfl rfl ?_
       rintro _ _ w51 ⟨r52, rfl, rfl, hv⟩ hGw51 hS
       have hS := hS.n0
       refine WL.assign rfl rfl <| WL.done <| W.seq <| W.region <| WL.move rfl rfl <| WL.lssD rfl rfl rfl <| WL.move rfl rfl <| WL.move rfl rfl <| WL.lssD rfl rfl rfl <| WL.neqB (r := ((decide (r52 < (0 : Int))) != (decide (r23 < r31)))) rfl rfl XU4 rfl rfl <| WL.move rfl rfl ?_
       rcases g53 : ((decide (r52 < (0 : Int))) != (decide (r23 < r31))) with _ | _
       ·have hv := hv.2 g53
        refine WL.take rfl <| WL.move rfl rfl <| WL.take rfl <| WL.eqlD rfl rfl rfl <| WL.take rfl <| WL.move rfl rfl <| WL.take rfl <| WL.move rfl rfl <| WL.take rfl <| WL.eqlD rfl rfl rfl <| WL.take rfl <| WL.neqB (r := ((decide (r52 = (0 : Int))) != (decide (r23 = r31)))) rfl rfl XU4 rfl rfl <| WL.pick rfl rfl rfl <| WL.done <| W.cond2 rfl (fun c54 => ?_) (fun c54 => ?_)
        ·have hv := hv.1 (c54)
         refine W.seq <| W.region <| WL.assign rfl rfl <| WL.done <| W.ret <| ⟨_, rfl, Fin.nil ?_⟩
         exact ⟨_, hS.ext, (hS.pick [] rfl).rows, News.of (hS.pick [] rfl).rows rfl, ⟨false, rfl, rfl, hv⟩⟩
        have hv := hv.2 (c54)
        refine W.skip ?_
        have hS := hS.pick [2, 3] rfl
        exact ⟨(), ⟨rfl, rfl, trivial⟩, rfl, hv, hS⟩
       have hv := hv.1 g53
       refine WL.pass rfl rfl rfl <| WL.pass rfl rfl rfl <| WL.pass rfl rfl rfl <| WL.pass rfl rfl rfl <| WL.pass rfl rfl rfl <| WL.pass rfl rfl rfl <| WL.pick rfl rfl rfl <| WL.done <| W.condT rfl <| W.seq <| W.region <| WL.assign rfl rfl <| WL.done <| W.ret <| ⟨_, rfl, Fin.nil ?_⟩
       exact ⟨_, hS.ext, (hS.pick [] rfl).rows, News.of (hS.pick [] rfl).rows rfl, ⟨false, rfl, rfl, hv⟩⟩
      have hv := hv.2 (of_decide_eq_false c40)
      refine W.skip ?_
      exact ⟨(), ⟨rfl, rfl, trivial⟩, rfl, hv, hS⟩
     rintro _ w55 ⟨hv, hS⟩
     have hv := hk63  hv
     refine W.seq <| W.region <| WL.move rfl rfl <| SL.lit1 (vs := is ([(0 : Int), (1 : Int)] : List Int)) hS XU22 XE3 rfl rfl rfl rfl (is_one _) rfl ?_
     intro A56 w57 hS
     refine SL.call hS (ok_Index (GFX.gfr (hS.chunk (i := 1) rfl)) (hS.rd (i := 0) rfl) hv) XF39 rfl XN39 rfl rfl ?_
     rintro _ _ w59 ⟨r60, r61, rfl, rfl, hv⟩ hGw59 hS
     have hS := hS.n0
     refine WL.move rfl rfl <| WL.extract rfl rfl rfl <| WL.extract rfl rfl rfl <| WL.assign rfl rfl <| WL.assign rfl rfl <| WL.done <| W.seq <| W.region <| WL.move rfl rfl <| WL.eqlD rfl rfl rfl <| WL.move rfl rfl ?_
     by_cases g62 : r60 = (1 : Int)
     ·have hv := hv.1 g62
      rw [decide_eq_true g62]
      refine WL.take rfl <| WL.move rfl rfl <| WL.take rfl <| WL.eqlD rfl rfl rfl <| WL.pick rfl rfl rfl <| WL.assign rfl rfl <| WL.done <| W.ret <| ⟨_, rfl, Fin.nil ?_⟩
      exact ⟨_, hS.ext, (hS.pick [] rfl).rows, News.of (hS.pick [] rfl).rows rfl, ⟨(decide (r61 = (0 : Int))), rfl, rfl, hv⟩⟩
     have hv := hv.2 g62
     rw [decide_eq_false g62]
     refine WL.pass rfl rfl rfl <| WL.pass rfl rfl rfl <| WL.pick rfl rfl rfl <| WL.assign rfl rfl <| WL.done <| W.ret <| ⟨_, rfl, Fin.nil ?_⟩
     exact ⟨_, hS.ext, (hS.pick [] rfl).rows, News.of (hS.pick [] rfl).rows rfl, ⟨false, rfl, rfl, hv⟩⟩
    have hv := hv.2 g38
    rw [decide_eq_false g38]
    refine WL.pass rfl rfl rfl <| WL.pass rfl rfl rfl <| WL.pick rfl rfl rfl <| WL.done <| W.condF rfl <| W.skip <| W.seq <| W.region <| WL.move rfl rfl <| SL.lit1 (vs := is ([(0 : Int), (1 : Int)] : List Int)) hS XU22 XE3 rfl rfl rfl rfl (is_one _) rfl ?_
    intro A64 w65 hS
    refine SL.call hS (ok_Index (GFX.gfr (hS.chunk (i := 1) rfl)) (hS.rd (i := 0) rfl) hv) XF39 rfl XN39 rfl rfl ?_
    rintro _ _ w67 ⟨r68, r69, rfl, rfl, hv⟩ hGw67 hS
    have hS := hS.n0
    refine WL.move rfl rfl <| WL.extract rfl rfl rfl <| WL.extract rfl rfl rfl <| WL.assign rfl rfl <| WL.assign rfl rfl <| WL.done <| W.seq <| W.region <| WL.move rfl rfl <| WL.eqlD rfl rfl rfl <| WL.move rfl rfl ?_
    by_cases g70 : r68 = (1 : Int)
    ·have hv := hv.1 g70
     rw [decide_eq_true g70]
     refine WL.take rfl <| WL.move rfl rfl <| WL.take rfl <| WL.eqlD rfl rfl rfl <| WL.pick rfl rfl rfl <| WL.assign rfl rfl <| WL.done <| W.ret <| ⟨_, rfl, Fin.nil ?_⟩
     exact ⟨_, hS.ext, (hS.pick [] rfl).rows, News.of (hS.pick [] rfl).rows rfl, ⟨(decide (r69 = (0 : Int))), rfl, rfl, hv⟩⟩
    have hv := hv.2 g70
    rw [decide_eq_false g70]
    refine WL.pass rfl rfl rfl <| WL.pass rfl rfl rfl <| WL.pick rfl rfl rfl <| WL.assign rfl rfl <| WL.done <| W.ret <| ⟨_, rfl, Fin.nil ?_⟩
    exact ⟨_, hS.ext, (hS.pick [] rfl).rows, News.of (hS.pick [] rfl).rows rfl, ⟨false, rfl, rfl, hv⟩⟩
end Go.Proofs.Ytcmfjjbbcfddpaa
set_option linter.unusedVariables false
set_option linter.unusedSimpArgs false
namespace Go.Proofs.Ytcmfjjbbcfddpaa
theorem v_IndexP {F : GFv} {p m v g : Nat} (K : GFk F p m v g) {l : List Int} (hl : l.length ≤ LB) {Q : Int × Int → Prop} (h : ∀ a b, ixS (p ^ m) l = (a, b) → Q (a, b)) : V_Index F l Q := v_Index K hl (pairE h)
theorem v_rIndexP {P M : Int} {mf : List Int} {p m v : Nat} (F : FV P M mf p m v) {l : List Int} (hl : l.length ≤ LB) {Q : Int × Int → Prop} (h : ∀ a b, ixS (p ^ m) l = (a, b) → Q (a, b)) : V_rIndex P M mf l Q := v_rIndex F hl (pairE h)
section
variable {P M : Int} {mf : List Int}
theorem law_WordIndexes {a b : List Int} (ha : a.length ≤ LB) (hb : b.length ≤ LB) : V_LIndexes P M mf a b (fun b => b = true) := by
  refine w_open (fun _ => rfl) fun F p m v g K hF => ?_
  have hq2 := hF.ring.q2
  have fin : V_Index F [0, 1] (fun q => match q with | (r60, r61) => ((r60 = (1 : Int)) → ((fun b => b = true) (decide (r61 = (0 : Int))))) ∧ (¬ (r60 = (1 : Int)) → (fun b => b = true) false)) := by
    refine v_Index K (by simp [LB]) ?_
    have hq256 := hF.q
    have h1 : (cW (p ^ m) (([0, 1] : List Int).length : Nat)).2 = 0 := by
      show (cW (p ^ m) ((2 : Nat) : Int)).2 = 0
      unfold cW cnS
      rw [if_neg (by omega)]
      have : (p ^ m) ^ 2 ≤ 65536 := by rw [Nat.pow_two]; exact Nat.le_trans (Nat.mul_le_mul hq256 hq256) (by decide)
      rw [if_pos (by simpa using this)]
    unfold ixS
    rw [if_pos h1, cl_of_dig (q := p ^ m) (l := [0, 1]) (by intro x hx; simp at hx; rcases hx with rfl | rfl <;> omega)]
    have : hv (p ^ m) [0, 1] = 1 := by simp [hv]
    rw [this]
    exact ⟨fun _ => rfl, fun c => absurd rfl c⟩
  refine v_IndexP K ha (fun c1 c2 hc => v_rIndexP hF ha (fun d1 d2 hd => ?_))
  obtain ⟨rfl, rfl⟩ := pairQ hc hd
  refine ⟨fun e => absurd rfl e, fun _ => ⟨fun e => absurd rfl e, fun _ => v_IndexP K hb (fun e1 e2 he => v_rIndexP hF hb (fun f1 f2 hf => ?_))⟩⟩
  obtain ⟨rfl, rfl⟩ := pairQ he hf
  refine ⟨fun e => absurd rfl e, fun _ => ⟨fun e => absurd rfl e, fun _ => ⟨fun hab => ?_, fun _ => fin⟩⟩⟩
  have hab : a.length = b.length := by omega
  refine ⟨True, ⟨fun h0 => v_Clean K ha (v_Clean K hb (v_Compare (by rw [cl_len]; exact LB62 ha) ?_)), fun _ => trivial⟩, fun _ => fin⟩
  have h1 : (cW (p ^ m) (a.length : Nat)).2 = 0 := by
    unfold ixS at hc
    split at hc
    · assumption
    · exact (congrArg Prod.snd hc).trans h0
  have h2 : (cW (p ^ m) (b.length : Nat)).2 = 0 := by rw [← hab]; exact h1
  unfold ixS at hc he
  rw [if_pos h1] at hc
  rw [if_pos h2] at he
  obtain ⟨rfl, _⟩ := Prod.mk.inj hc
  obtain ⟨rfl, _⟩ := Prod.mk.inj he
  obtain ⟨l1, l2⟩ := lex_hv (q := p ^ m) (a := cl (p ^ m) a) (b := cl (p ^ m) b) (by rw [cl_len, cl_len, hab]) (cl_dig (by omega) a) (cl_dig (by omega) b)
  have d1 : decide (lex (cl (p ^ m) a) (cl (p ^ m) b) < 0) = decide (hv (p ^ m) (cl (p ^ m) a) < hv (p ^ m) (cl (p ^ m) b)) := decide_eq_decide.2 l1
  have d2 : decide (lex (cl (p ^ m) a) (cl (p ^ m) b) = 0) = decide (hv (p ^ m) (cl (p ^ m) a) = hv (p ^ m) (cl (p ^ m) b)) := decide_eq_decide.2 l2
  rw [d1, d2]
  simp only [bne_self_eq_false]
  exact ⟨fun h => absurd h (by decide), fun _ => ⟨fun h => absurd h (by decide), fun _ => trivial⟩⟩
end
end Go.Proofs.Ytcmfjjbbcfddpaa
