/- Contracts of functions of the program, and what they lean on: D12, D13, N7. -/
import Derived.Test.YtcmfjjbbcfddpaaWordCleansG6
set_option linter.unusedSimpArgs false
set_option linter.unusedVariables false
set_option maxRecDepth 4000
set_option maxHeartbeats 4000000
namespace Go.Proofs.Ytcmfjjbbcfddpaa
open Go.RowKit
def V_open (Pf : Int) (Mf : Int) (mf : List Int) (Q : Option GFv × Bool → Prop) : Prop :=
  V_New Pf Mf mf (fun q => match q with | (none, r15) => V_rCheck Pf Mf mf (fun r23 => ((r23 ≠ (0 : Int)) → (Q (none, (decide (r15 ≠ (0 : Int)))))) ∧ (¬ (r23 ≠ (0 : Int)) → (((r15 ≠ (0 : Int)) → (Q (none, false))) ∧ (¬ (r15 ≠ (0 : Int)) → (Q (none, false)))))) | (some F16, r15) => V_rCheck Pf Mf mf (fun r27 => ((r27 ≠ (0 : Int)) → (Q (none, (decide (r15 ≠ (0 : Int)))))) ∧ (¬ (r27 ≠ (0 : Int)) → (((r15 ≠ (0 : Int)) → (Q (none, false))) ∧ (¬ (r15 ≠ (0 : Int)) → (Q (some F16, true)))))))
theorem ok_open {w : World} {Q : Option GFv × Bool → Prop} {Pf : Int} {Mf : Int} {mf : List Int} {Bf : Nat} {Af : Option Addr} {nf kf : Nat} (hf : Rd Bf w 1 Af nf kf (is mf)) (hv : V_open Pf Mf mf Q) :
  Calls Try.prog 17 #[.agg #[.int .i64 Pf, .int .i64 Mf, .slice Af nf kf]] w fun e w' => ∃ v Qr, e = .returned v ∧ w.grownBy w' none ∧ Rows w.heap.size none w' Qr ∧ News w.heap.size Qr ∧ ∃ (o : Option GFv) (b2 : Bool), Q (o, b2) ∧ match o with | none => v = .tuple #[.pointer none, .bool true, .bool b2] ∧ Qr = [] | some F => ∃ (ad : Addr) (lo hi : Nat), v = .tuple #[.pointer (some ad), .bool false, .bool true] ∧ Qr = [.ch lo hi (fun wz => GFX lo hi wz ad F)] := by
 have hnf := hf.ilen; subst hnf; refine calls_swap <| calls_of_W (vs := [.agg #[.int .i64 Pf, .int .i64 Mf, .slice Af mf.length kf]]) [2, 3, 4] XF17 rfl rfl rfl rfl ?_; have hS := St.start w; unfold V_open at hv; refine W.seq <| W.region <| SL.box (z := 3) (cs := [.int .i64 Pf, .int .i64 Mf, .slice Af mf.length kf]) hS rfl rfl rfl rfl ?_; intro g11 w12 hS; refine WL.assign rfl rfl <| WL.assign rfl rfl <| WL.assign rfl rfl <| WL.done <| W.seq <| W.region <| WL.loadV (cs := [.int .i64 Pf, .int .i64 Mf, .slice Af mf.length kf]) XE24 XG24 rfl rfl (Own.vcells (hS.own (i := 0) rfl)) rfl <| SL.call hS (ok_New (hS.ro hf) hv) XF54 rfl XN54 rfl rfl ?_; rintro _ _ w14 ⟨o, r15, hv, hK⟩ hGw14 hS; cases o with
 | none =>
  obtain ⟨rfl, rfl⟩ := hK
  change St _ _ _ _ [.row 24 3 (some ⟨g11, 0, none⟩) 1 1 [.int .i64 Pf, .int .i64 Mf, .slice Af mf.length kf]] at hS
  refine WL.move rfl rfl <| WL.extract rfl rfl rfl <| WL.extract rfl rfl rfl <| WL.assign rfl rfl <| WL.assign rfl rfl <| WL.done <| W.seq <| W.seq <| W.region <| WL.loadV (cs := [.int .i64 Pf, .int .i64 Mf, .slice Af mf.length kf]) XE24 XG24 rfl rfl (Own.vcells (hS.own (i := 0) rfl)) rfl <| SL.call hS (ok_rCheck (hS.ro hf) hv) XF55 rfl XN55 rfl rfl ?_; rintro _ _ w22 ⟨r23, rfl, rfl, hv⟩ hGw22 hS; have hS := hS.n0; refine WL.neqD rfl rfl rfl <| WL.done <| W.cond2 rfl (fun c24 => ?_) (fun c24 => ?_)
  ·have hv := hv.1 (of_decide_eq_true c24); refine W.seq <| W.region <| WL.move rfl rfl <| WL.neqD rfl rfl rfl <| WL.assign rfl rfl <| WL.assign rfl rfl <| WL.assign rfl rfl <| WL.done <| W.ret <| ⟨_, rfl, Fin.nil ?_⟩
   exact ⟨_, hS.ext, (hS.pick [] rfl).rows, News.of (hS.pick [] rfl).rows rfl, ⟨none, (decide (r15 ≠ (0 : Int))), hv, rfl, rfl⟩⟩
  have hv := hv.2 (of_decide_eq_false c24); refine W.skip <| W.seq <| W.seq <| W.region <| WL.move rfl rfl <| WL.neqD rfl rfl rfl <| WL.move rfl rfl ?_; by_cases g25 : r15 ≠ (0 : Int)
  ·have hv := hv.1 g25; rw [decide_eq_true g25]; refine WL.pass rfl rfl rfl <| WL.pass rfl rfl rfl <| WL.pick rfl rfl rfl <| WL.done <| W.condT rfl <| W.seq <| W.region <| WL.assign rfl rfl <| WL.assign rfl rfl <| WL.assign rfl rfl <| WL.done <| W.ret <| ⟨_, rfl, Fin.nil ?_⟩
   exact ⟨_, hS.ext, (hS.pick [] rfl).rows, News.of (hS.pick [] rfl).rows rfl, ⟨none, false, hv, rfl, rfl⟩⟩
  have hv := hv.2 g25; rw [decide_eq_false g25]; refine WL.take rfl <| WL.move rfl rfl <| WL.take rfl <| WL.eqlPn XU25 rfl rfl rfl rfl <| WL.pick rfl rfl rfl <| WL.done <| W.condT rfl <| W.seq <| W.region <| WL.assign rfl rfl <| WL.assign rfl rfl <| WL.assign rfl rfl <| WL.done <| W.ret <| ⟨_, rfl, Fin.nil ?_⟩
  exact ⟨_, hS.ext, (hS.pick [] rfl).rows, News.of (hS.pick [] rfl).rows rfl, ⟨none, false, hv, rfl, rfl⟩⟩
 | some F16 =>
  obtain ⟨ad17, lo18, hi19, rfl, rfl⟩ := hK
  change St _ _ _ _ [.ch lo18 hi19 (fun wz => GFX lo18 hi19 wz ad17 F16), .row 24 3 (some ⟨g11, 0, none⟩) 1 1 [.int .i64 Pf, .int .i64 Mf, .slice Af mf.length kf]] at hS
  refine WL.move rfl rfl <| WL.extract rfl rfl rfl <| WL.extract rfl rfl rfl <| WL.assign rfl rfl <| WL.assign rfl rfl <| WL.done <| W.seq <| W.seq <| W.region <| WL.loadV (cs := [.int .i64 Pf, .int .i64 Mf, .slice Af mf.length kf]) XE24 XG24 rfl rfl (Own.vcells (hS.own (i := 1) rfl)) rfl <| SL.call hS (ok_rCheck (hS.ro hf) hv) XF55 rfl XN55 rfl rfl ?_; rintro _ _ w26 ⟨r27, rfl, rfl, hv⟩ hGw26 hS; have hS := hS.n0; refine WL.neqD rfl rfl rfl <| WL.done <| W.cond2 rfl (fun c28 => ?_) (fun c28 => ?_)
  ·have hv := hv.1 (of_decide_eq_true c28); refine W.seq <| W.region <| WL.move rfl rfl <| WL.neqD rfl rfl rfl <| WL.assign rfl rfl <| WL.assign rfl rfl <| WL.assign rfl rfl <| WL.done <| W.ret <| ⟨_, rfl, Fin.nil ?_⟩
   exact ⟨_, hS.ext, (hS.pick [] rfl).rows, News.of (hS.pick [] rfl).rows rfl, ⟨none, (decide (r15 ≠ (0 : Int))), hv, rfl, rfl⟩⟩
  have hv := hv.2 (of_decide_eq_false c28); refine W.skip <| W.seq <| W.seq <| W.region <| WL.move rfl rfl <| WL.neqD rfl rfl rfl <| WL.move rfl rfl ?_; by_cases g29 : r15 ≠ (0 : Int)
  ·have hv := hv.1 g29; rw [decide_eq_true g29]; refine WL.pass rfl rfl rfl <| WL.pass rfl rfl rfl <| WL.pick rfl rfl rfl <| WL.done <| W.condT rfl <| W.seq <| W.region <| WL.assign rfl rfl <| WL.assign rfl rfl <| WL.assign rfl rfl <| WL.done <| W.ret <| ⟨_, rfl, Fin.nil ?_⟩
   exact ⟨_, hS.ext, (hS.pick [] rfl).rows, News.of (hS.pick [] rfl).rows rfl, ⟨none, false, hv, rfl, rfl⟩⟩
  have hv := hv.2 g29; rw [decide_eq_false g29]; refine WL.take rfl <| WL.move rfl rfl <| WL.take rfl <| WL.eqlPn XU25 rfl rfl rfl rfl <| WL.pick rfl rfl rfl <| WL.done <| W.condF rfl <| W.skip <| W.seq <| W.region <| WL.move rfl rfl <| WL.assign rfl rfl <| WL.assign rfl rfl <| WL.assign rfl rfl <| WL.done <| W.ret <| ⟨_, rfl, Fin.nil ?_⟩
  exact ⟨_, hS.ext, (hS.pick [0] rfl).rows, News.of (hS.pick [0] rfl).rows rfl, ⟨some F16, true, hv, _, _, _, rfl, rfl⟩⟩
end Go.Proofs.Ytcmfjjbbcfddpaa
set_option linter.unusedSimpArgs false
set_option linter.unusedVariables false
set_option maxRecDepth 4000
set_option maxHeartbeats 4000000
namespace Go.Proofs.Ytcmfjjbbcfddpaa
open Go.RowKit
end Go.Proofs.Ytcmfjjbbcfddpaa
set_option linter.unusedVariables false
set_option linter.unusedSimpArgs false
namespace Go.Proofs.Ytcmfjjbbcfddpaa
theorem pairE {α β : Type} {r : α × β} {Q : α × β → Prop} (h : ∀ a b, r = (a, b) → Q (a, b)) : Q r := by obtain ⟨a, b⟩ := r; exact h a b rfl
theorem pairQ {α β : Type} {r : α × β} {a a' : α} {b b' : β} (h : r = (a, b)) (h' : r = (a', b')) : a = a' ∧ b = b' := Prod.mk.inj (h.symm.trans h')
theorem v_UnrankP {n k r : Int} (hk : k ≤ 9223372036854775807) {Q : List Int × Int → Prop} (h : ∀ a b, unS n k r = (a, b) → Q (a, b)) : V_Unrank n k r Q := v_Unrank hk (pairE h)
section
variable {P M : Int} {mf : List Int}
theorem w_open {Q : Option GFv × Bool → Prop} (h0 : ¬ Valid P M mf → Q (none, true)) (h1 : ∀ (F : GFv) (p m v g : Nat), GFk F p m v g → FV P M mf p m v → Q (some F, true)) : V_open P M mf Q := by
 refine v_New (fun hV => v_rCheck ⟨fun _ => h0 hV, fun hn => absurd (ck_no hV) (by intro e; rw [e] at hn; exact hn (by decide))⟩) fun F p m v g K eP eM em => ?_; have hF : FV P M mf p m v := by have := K.fv; rwa [eP, eM, em] at this
 refine v_rCheck ⟨fun hn => ?_, fun hn => ⟨fun h => absurd rfl h, fun _ => h1 F p m v g K hF⟩⟩; exact absurd (ck_ok ⟨_, _, _, hF⟩) hn
theorem LB62 {n : Nat} (h : n ≤ LB) : n ≤ 4611686018427387904 := Nat.le_trans h (by unfold LB; decide)
theorem inE_0 {q : Nat} (hq : 2 ≤ q) : inE q 0 = 0 := inE_nat (x := 0) (by omega)
theorem inE_1 {q : Nat} (hq : 2 ≤ q) : inE q 1 = 1 := inE_nat (x := 1) (by omega)
end
end Go.Proofs.Ytcmfjjbbcfddpaa
