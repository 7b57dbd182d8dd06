/- What only this law leans on. -/
import Derived.Test.YtcmfjjbbcfddpaaWordCleansG7
set_option linter.unusedVariables false
namespace Go.Proofs.Ytcmfjjbbcfddpaa
open Go.RowKit
theorem Try.nm53 : (Try.f53.name == "runtime.NumGoroutine") = false := by kernel_rfl
end Go.Proofs.Ytcmfjjbbcfddpaa
namespace Go.Proofs.Ytcmfjjbbcfddpaa
open Go.RowKit
abbrev XF16 := Try.func16
abbrev XF53 := Try.func53
abbrev XN53 := Try.nm53
end Go.Proofs.Ytcmfjjbbcfddpaa
set_option linter.unusedSimpArgs false
set_option linter.unusedVariables false
set_option maxRecDepth 4000
set_option maxHeartbeats 4000000
namespace Go.Proofs.Ytcmfjjbbcfddpaa
open Go.RowKit
def V_rUnrank (n : Int) (k : Int) (r : Int) (Q : List Int × Int → Prop) : Prop :=
  V_rBinomial n k (fun q => match q with | (r12, r13) => ((r13 ≠ (0 : Int)) → (Q (([] : List Int), r13))) ∧ (¬ (r13 ≠ (0 : Int)) → (((k < (0 : Int)) → (Q (([] : List Int), (6 : Int)))) ∧ (¬ (k < (0 : Int)) → (((n < k) → (Q (([] : List Int), (6 : Int)))) ∧ (¬ (n < k) → (((r < (0 : Int)) → (Q (([] : List Int), (6 : Int)))) ∧ (¬ (r < (0 : Int)) → (((r12 ≤ r) → (Q (([] : List Int), (6 : Int)))) ∧ (¬ (r12 ≤ r) → (∃ J25 : List Int → Prop, (∃ (I41 : List Int → Int → Int → Prop) (μ42 : List Int → Int → Int → Nat), I41 ([] : List Int) r (0 : Int) ∧ ∀ (x36 : List Int) (z39 : Int) (z40 : Int), (I41 x36 z39 z40 → (((z40 < n) → (((((x36.length : Nat) : Int) < k) → (∃ J52 : List Int → Int → Int → Bool → Prop, ((I64 (n - (1 : Int))) ∧ ((I64 ((n - (1 : Int)) - z40)) ∧ ((I64 (k - (1 : Int))) ∧ ((I64 ((k - (1 : Int)) - ((x36.length : Nat) : Int))) ∧ (V_rBinomial ((n - (1 : Int)) - z40) ((k - (1 : Int)) - ((x36.length : Nat) : Int)) (fun q => match q with | (r58, r59) => ((z39 < r58) → ((((x36.length : Nat) + (1 : Nat) : Int) * 8 ≤ 140737488355328) ∧ (J52 (x36 ++ ([z40] : List Int)) z39 r58 (decide (z39 < r58))))) ∧ (¬ (z39 < r58) → ((I64 (z39 - r58)) ∧ (J52 x36 (z39 - r58) r58 (decide (z39 < r58))))))))))) ∧ ∀ (x46 : List Int) (z49 : Int) (z50 : Int) (b51 : Bool), (J52 x46 z49 z50 b51 → ((I64 (z40 + (1 : Int))) ∧ (I41 x46 z49 (z40 + (1 : Int)) ∧ μ42 x46 z49 (z40 + (1 : Int)) < μ42 x36 z39 z40))))) ∧ (¬ (((x36.length : Nat) : Int) < k) → J25 x36))) ∧ (¬ (z40 < n) → J25 x36)))) ∧ ∀ (x22 : List Int), (J25 x22 → (Q (x22, (0 : Int)))))))))))))))
theorem ok_rUnrank {w : World} {Q : List Int × Int → Prop} {n : Int} {k : Int} {r : Int}  (hv : V_rUnrank n k r Q) :
    Calls Try.prog 53 #[.int .i64 n, .int .i64 k, .int .i64 r] w fun e w' => ∃ v Qr, e = .returned v ∧ w.grownBy w' none ∧ Rows w.heap.size none w' Qr ∧ News w.heap.size Qr ∧ ∃ (r0 : List Int) (r1 : Int) (Ar0 : Option Addr) (cr0 : Nat), v = .tuple #[.slice Ar0 r0.length cr0, .int .i64 r1] ∧ Qr = [.row 3 1 Ar0 r0.length cr0 (is r0)] ∧ Q (r0, r1) := by
  refine calls_swap <| calls_of_W (vs := [.int .i64 n, .int .i64 k, .int .i64 r]) [6, 7] XF53 rfl rfl rfl rfl ?_
  have hS := St.start w
  unfold V_rUnrank at hv
  refine W.seq <| W.region <| WL.assign rfl rfl <| WL.assign rfl rfl <| WL.done <| W.seq <| W.region <| WL.move rfl rfl <| WL.move rfl rfl <| SL.call hS (ok_rBinomial  hv) XF46 rfl XN46 rfl rfl ?_
  rintro _ _ w11 ⟨r12, r13, rfl, rfl, hv⟩ hGw11 hS
  have hS := hS.n0
  refine WL.move rfl rfl <| WL.extract rfl rfl rfl <| WL.extract rfl rfl rfl <| WL.assign rfl rfl <| WL.assign rfl rfl <| WL.done <| W.seq <| W.seq <| W.region <| WL.move rfl rfl <| WL.neqD rfl rfl rfl <| WL.done <| W.cond2 rfl (fun c14 => ?_) (fun c14 => ?_)
  ·have hv := hv.1 (of_decide_eq_true c14)
   refine W.seq <| W.region <| WL.move rfl rfl <| WL.assign rfl rfl <| WL.assign rfl rfl <| WL.done <| W.ret ?_
   have hS := hS.nil (e := 3) (z := 1)
   refine ⟨_, rfl, Fin.nil ?_⟩
   exact ⟨_, hS.ext, (hS.pick [0] rfl).rows, News.of (hS.pick [0] rfl).rows rfl, ⟨([] : List Int), r13, none, 0, rfl, rfl, hv⟩⟩
  have hv := hv.2 (of_decide_eq_false c14)
  refine W.skip <| W.seq <| W.seq <| W.region <| WL.move rfl rfl <| WL.lssD rfl rfl rfl <| WL.move rfl rfl ?_
  by_cases g15 : k < (0 : Int)
  ·have hv := hv.1 g15
   rw [decide_eq_true g15]
   refine WL.pass rfl rfl rfl <| WL.pass rfl rfl rfl <| WL.pass rfl rfl rfl <| WL.pick rfl rfl rfl <| WL.move rfl rfl <| WL.pass rfl rfl rfl <| WL.pass rfl rfl rfl <| WL.pick rfl rfl rfl <| WL.move rfl rfl <| WL.pass rfl rfl rfl <| WL.pass rfl rfl rfl <| WL.pass rfl rfl rfl <| WL.pick rfl rfl rfl <| WL.done <| W.condT rfl <| W.seq <| W.region <| WL.assign rfl rfl <| WL.assign rfl rfl <| WL.done <| W.ret ?_
   have hS := hS.nil (e := 3) (z := 1)
   refine ⟨_, rfl, Fin.nil ?_⟩
   exact ⟨_, hS.ext, (hS.pick [0] rfl).rows, News.of (hS.pick [0] rfl).rows rfl, ⟨([] : List Int), (6 : Int), none, 0, rfl, rfl, hv⟩⟩
  have hv := hv.2 g15
  rw [decide_eq_false g15]
  refine WL.take rfl <| WL.move rfl rfl <| WL.take rfl <| WL.move rfl rfl <| WL.take rfl <| WL.gtrD rfl rfl rfl <| WL.pick rfl rfl rfl <| WL.move rfl rfl ?_
  by_cases g16 : n < k
  ·have hv := hv.1 g16
   rw [decide_eq_true g16]
   refine WL.pass rfl rfl rfl <| WL.pass rfl rfl rfl <| WL.pick rfl rfl rfl <| WL.move rfl rfl <| WL.pass rfl rfl rfl <| WL.pass rfl rfl rfl <| WL.pass rfl rfl rfl <| WL.pick rfl rfl rfl <| WL.done <| W.condT rfl <| W.seq <| W.region <| WL.assign rfl rfl <| WL.assign rfl rfl <| WL.done <| W.ret ?_
   have hS := hS.nil (e := 3) (z := 1)
   refine ⟨_, rfl, Fin.nil ?_⟩
   exact ⟨_, hS.ext, (hS.pick [0] rfl).rows, News.of (hS.pick [0] rfl).rows rfl, ⟨([] : List Int), (6 : Int), none, 0, rfl, rfl, hv⟩⟩
  have hv := hv.2 g16
  rw [decide_eq_false g16]
  refine WL.take rfl <| WL.move rfl rfl <| WL.take rfl <| WL.lssD rfl rfl rfl <| WL.pick rfl rfl rfl <| WL.move rfl rfl ?_
  by_cases g17 : r < (0 : Int)
  ·have hv := hv.1 g17
   rw [decide_eq_true g17]
   refine WL.pass rfl rfl rfl <| WL.pass rfl rfl rfl <| WL.pass rfl rfl rfl <| WL.pick rfl rfl rfl <| WL.done <| W.condT rfl <| W.seq <| W.region <| WL.assign rfl rfl <| WL.assign rfl rfl <| WL.done <| W.ret ?_
   have hS := hS.nil (e := 3) (z := 1)
   refine ⟨_, rfl, Fin.nil ?_⟩
   exact ⟨_, hS.ext, (hS.pick [0] rfl).rows, News.of (hS.pick [0] rfl).rows rfl, ⟨([] : List Int), (6 : Int), none, 0, rfl, rfl, hv⟩⟩
  have hv := hv.2 g17
  rw [decide_eq_false g17]
  refine WL.take rfl <| WL.move rfl rfl <| WL.take rfl <| WL.move rfl rfl <| WL.take rfl <| WL.geqD rfl rfl rfl <| WL.pick rfl rfl rfl <| WL.done <| W.cond2 rfl (fun c18 => ?_) (fun c18 => ?_)
  ·have hv := hv.1 (of_decide_eq_true c18)
   refine W.seq <| W.region <| WL.assign rfl rfl <| WL.assign rfl rfl <| WL.done <| W.ret ?_
   have hS := hS.nil (e := 3) (z := 1)
   refine ⟨_, rfl, Fin.nil ?_⟩
   exact ⟨_, hS.ext, (hS.pick [0] rfl).rows, News.of (hS.pick [0] rfl).rows rfl, ⟨([] : List Int), (6 : Int), none, 0, rfl, rfl, hv⟩⟩
  have hv := hv.2 (of_decide_eq_false c18)
  refine W.skip <| W.seq <| W.region <| SL.lit1 (vs := is ([] : List Int)) hS XU22 XE3 rfl rfl rfl rfl (is_one _) rfl ?_
  intro A19 w20 hS
  refine WL.assign rfl rfl <| WL.done <| W.seq <| W.seq <| W.region <| WL.assign rfl rfl <| WL.done ?_
  obtain ⟨J25, hv, hk74⟩ := hv
  refine W.cutN (σ := List Int × Option Addr × Nat) (fun q w1 => match q with | (x22, A23, k24) => J25 x22 ∧ St TT w none w1 [.row 3 1 A23 x22.length k24 (is x22)]) (fun q => match q with | (x22, A23, k24) => [(6, .slice none 0 0), (7, .int .i64 (0 : Int)), (10, .slice A23 x22.length k24)]) ?_ ?_
  ·refine W.block ?_
   obtain ⟨I41, μ42, hv, hk72⟩ := hv
   have hm0 : 0 = ([] : List Int).length := (hS.rd (i := 0) rfl).ilen.symm
   have hS := hS.relen (i := 0) rfl hm0
   change St _ _ _ _ [.row 3 1 A19 ([] : List Int).length 0 (is ([] : List Int))] at hS
   refine W.loop (σ := List Int × Int × Int × Option Addr × Nat) (fun q w1 => match q with | (x36, z39, z40, A37, k38) => I41 x36 z39 z40 ∧ St TT w none w1 [.row 3 1 A37 x36.length k38 (is x36)]) (fun q => match q with | (x36, z39, z40, A37, k38) => [(0, .int .i64 n), (1, .int .i64 k), (2, .int .i64 z39), (6, .slice none 0 0), (7, .int .i64 (0 : Int)), (10, .slice A37 x36.length k38), (11, .int .i64 z40)]) (fun q => match q with | (x36, z39, z40, A37, k38) => μ42 x36 z39 z40) (([] : List Int), r, (0 : Int), A19, 0) ⟨hv, hS⟩ ⟨rfl, rfl, rfl, rfl, rfl, (sm (by first | rfl | assumption | omega)), rfl, trivial⟩ ?_
   rintro ⟨x36, z39, z40, A37, k38⟩ w43 ⟨hv, hS⟩
   have hv := hk72 x36 z39 z40 hv
   refine W.seq <| W.seq <| W.region <| WL.move rfl rfl <| WL.move rfl rfl <| WL.lssD rfl rfl rfl <| WL.move rfl rfl ?_
   by_cases g44 : z40 < n
   ·have hv := hv.1 g44
    rw [decide_eq_true g44]
    refine WL.take rfl <| WL.move rfl rfl <| WL.take rfl <| WL.len XU22 rfl rfl <| WL.take rfl <| WL.move rfl rfl <| WL.take rfl <| WL.lssD rfl rfl rfl <| WL.pick rfl rfl rfl <| WL.done <| W.cond2 rfl (fun c45 => ?_) (fun c45 => ?_)
    ·have hv := hv.1 (of_decide_eq_true c45)
     refine W.skip <| W.seq ?_
     obtain ⟨J52, hv, hk71⟩ := hv
     refine W.cutN (σ := List Int × Int × Int × Bool × Option Addr × Nat) (fun q w1 => match q with | (x46, z49, z50, b51, A47, k48) => J52 x46 z49 z50 b51 ∧ St TT w none w1 [.row 3 1 A47 x46.length k48 (is x46)]) (fun q => match q with | (x46, z49, z50, b51, A47, k48) => [(0, .int .i64 n), (1, .int .i64 k), (2, .int .i64 z49), (6, .slice none 0 0), (7, .int .i64 (0 : Int)), (10, .slice A47 x46.length k48), (11, .int .i64 z40), (12, .int .i64 z50), (48, .bool (decide (((x36.length : Nat) : Int) < k))), (66, .bool b51)]) ?_ ?_
     ·refine W.block ?_
      refine W.seq <| W.region <| WL.move rfl rfl ?_
      obtain ⟨o53, hv⟩ := hv
      refine WL.sub (r := (n - (1 : Int))) rfl rfl (wr o53) rfl <| WL.move rfl rfl ?_
      obtain ⟨o54, hv⟩ := hv
      refine WL.sub (r := ((n - (1 : Int)) - z40)) rfl rfl (wr o54) rfl <| WL.move rfl rfl ?_
      obtain ⟨o55, hv⟩ := hv
      refine WL.sub (r := (k - (1 : Int))) rfl rfl (wr o55) rfl <| WL.move rfl rfl <| WL.len XU22 rfl rfl ?_
      obtain ⟨o56, hv⟩ := hv
      refine WL.sub (r := ((k - (1 : Int)) - ((x36.length : Nat) : Int))) rfl rfl (wr o56) rfl <| SL.call hS (ok_rBinomial  hv) XF46 rfl XN46 rfl rfl ?_
      rintro _ _ w57 ⟨r58, r59, rfl, rfl, hv⟩ hGw57 hS
      have hS := hS.n0
      refine WL.move rfl rfl <| WL.extract rfl rfl rfl <| WL.extract rfl rfl rfl <| WL.assign rfl rfl <| WL.assign rfl rfl <| WL.done <| W.seq <| W.region <| WL.move rfl rfl <| WL.move rfl rfl <| WL.lssD rfl rfl rfl <| WL.done <| W.cond2 rfl (fun c60 => ?_) (fun c60 => ?_)
      ·have hv := hv.1 (of_decide_eq_true c60)
       refine W.region <| WL.move rfl rfl <| WL.move rfl rfl <| SL.lit1 (vs := is ([z40] : List Int)) hS XU22 XE3 rfl rfl rfl rfl (is_one _) rfl ?_
       intro A61 w62 hS
       obtain ⟨o64, hv⟩ := hv
       refine SL.append (cs := is x36) (cs' := is ([z40] : List Int)) 1 ((x36 ++ ([z40] : List Int)).length) (is (x36 ++ ([z40] : List Int))) hS rfl XU22 XE3 (hS.rd (i := 0) rfl) (is_one _) rfl rfl (apk o64).1 (apk o64).2 (is_ap (hS.rd (i := 1) rfl) (hS.rd (i := 0) rfl)) (is_append _ _) rfl ?_
       intro A65 k66 w67 hS
       refine WL.assign rfl rfl <| WL.done ?_
       have hS := hS.pick [1] rfl
       exact ⟨(x36 ++ ([z40] : List Int), z39, r58, (decide (z39 < r58)), A65, k66), ⟨rfl, rfl, rfl, rfl, rfl, rfl, rfl, rfl, rfl, rfl, trivial⟩, rfl, hv, hS⟩
      have hv := hv.2 (of_decide_eq_false c60)
      refine W.region <| WL.move rfl rfl <| WL.move rfl rfl ?_
      obtain ⟨o68, hv⟩ := hv
      refine WL.sub (r := (z39 - r58)) rfl rfl (wr o68) rfl <| WL.assign rfl rfl <| WL.done ?_
      exact ⟨(x36, (z39 - r58), r58, (decide (z39 < r58)), A37, k38), ⟨rfl, rfl, rfl, rfl, rfl, rfl, rfl, rfl, rfl, rfl, trivial⟩, rfl, hv, hS⟩
     rintro ⟨x46, z49, z50, b51, A47, k48⟩ w69 ⟨hv, hS⟩
     have hv := hk71 x46 z49 z50 b51 hv
     refine W.region <| WL.move rfl rfl ?_
     obtain ⟨o70, hv⟩ := hv
     refine WL.add (r := (z40 + (1 : Int))) rfl rfl (wr o70) rfl <| WL.assign rfl rfl <| WL.done ?_
     exact ⟨(x46, z49, (z40 + (1 : Int)), A47, k48), ⟨rfl, rfl, rfl, rfl, rfl, rfl, rfl, trivial⟩, hv.2, rfl, hv.1, hS⟩
    have hv := hv.2 (of_decide_eq_false c45)
    refine W.exit ?_
    exact ⟨(x36, A37, k38), ⟨rfl, rfl, rfl, trivial⟩, rfl, hv, hS⟩
   have hv := hv.2 g44
   rw [decide_eq_false g44]
   refine WL.pass rfl rfl rfl <| WL.pass rfl rfl rfl <| WL.pass rfl rfl rfl <| WL.pass rfl rfl rfl <| WL.pick rfl rfl rfl <| WL.done <| W.condF rfl <| W.exit ?_
   exact ⟨(x36, A37, k38), ⟨rfl, rfl, rfl, trivial⟩, rfl, hv, hS⟩
  rintro ⟨x22, A23, k24⟩ w73 ⟨hv, hS⟩
  have hv := hk74 x22 hv
  refine W.seq <| W.region <| WL.move rfl rfl <| WL.assign rfl rfl <| WL.assign rfl rfl <| WL.done <| W.ret <| ⟨_, rfl, Fin.nil ?_⟩
  exact ⟨_, hS.ext, (hS.pick [0] rfl).rows, News.of (hS.pick [0] rfl).rows rfl, ⟨x22, (0 : Int), A23, k24, rfl, rfl, hv⟩⟩
end Go.Proofs.Ytcmfjjbbcfddpaa
set_option linter.unusedVariables false
set_option linter.unusedSimpArgs false
namespace Go.Proofs.Ytcmfjjbbcfddpaa
theorem rk_unr : ∀ (m : Nat) (x : Int) (k r : Nat), r < choose m k → rk m x (unr m x k r) = r ∧ (unr m x k r).length = k ∧ asc (x - 1) (x + (m : Int)) (unr m x k r) = true
  | m, x, 0, r, h => by rw [choose_zero] at h; rw [unr_zero, rk_nil]; exact ⟨by omega, rfl, rfl⟩
  | 0, x, k + 1, r, h => by rw [choose_big (by omega)] at h; omega
  | m + 1, x, k + 1, r, h => by
    rw [unr_succ]
    by_cases c : r < choose m k
    · obtain ⟨i1, i2, i3⟩ := rk_unr m (x + 1) k r c
      rw [if_pos c, rk_cons, if_pos rfl]
      refine ⟨i1, by rw [List.length_cons, i2], asc_cons.2 ⟨⟨by omega, by omega⟩, ?_⟩⟩
      rw [show x + 1 - 1 = x by omega, show x + 1 + (m : Int) = x + ((m + 1 : Nat) : Int) by omega] at i3; exact i3
    · rw [choose_succ] at h
      obtain ⟨i1, i2, i3⟩ := rk_unr m (x + 1) (k + 1) (r - choose m k) (by omega)
      rw [if_neg c]
      generalize unr m (x + 1) (k + 1) (r - choose m k) = l at *
      cases l with
      | nil => simp at i2
      | cons y s =>
        simp only [List.length_cons] at i2
        rw [show x + 1 + (m : Int) = x + ((m + 1 : Nat) : Int) by omega] at i3
        have hy := (asc_cons.1 i3).1.1
        rw [rk_cons, if_neg (by omega), i1, show s.length = k by omega]
        exact ⟨by omega, by rw [List.length_cons]; omega, asc_low i3 (by omega)⟩
theorem v_rUnrank {n k r : Int} {Q : List Int × Int → Prop} (h : Q (unS n k r)) : V_rUnrank n k r Q := by
  refine v_rBinomial ?_
  unfold unS at h
  unfold bS
  by_cases c : n < 0 ∨ 64 < n
  · rw [if_pos c]
    rw [if_pos (by omega)] at h
    exact ⟨fun _ => h, fun e => absurd (by decide) e⟩
  · rw [if_neg c]
    have hh : ∀ v : Int, (k < 0 ∨ n < k ∨ 64 < n ∨ r < 0 → Q ([], 6)) := fun v e => by rw [if_pos (by omega)] at h; exact h
    by_cases c2 : k < 0
    · rw [if_pos c2]
      exact ⟨fun e => absurd rfl e, fun _ => ⟨fun _ => hh 0 (by omega), fun e => absurd c2 e⟩⟩
    · rw [if_neg c2]
      refine ⟨fun e => absurd rfl e, fun _ => ⟨fun _ => hh 0 (by omega), fun _ => ⟨fun _ => hh 0 (by omega), fun _ => ⟨fun _ => hh 0 (by omega), fun e => ⟨fun e2 => by rw [if_pos (by omega)] at h; exact h, fun e2 => ?_⟩⟩⟩⟩⟩
      rw [if_neg (by omega)] at h
      obtain ⟨n, rfl⟩ : ∃ a : Nat, n = a := ⟨n.toNat, by omega⟩
      obtain ⟨k, rfl⟩ : ∃ a : Nat, k = a := ⟨k.toNat, by omega⟩
      obtain ⟨r, rfl⟩ : ∃ a : Nat, r = a := ⟨r.toNat, by omega⟩
      simp only [Int.toNat_natCast] at h e2
      have hn : n ≤ 64 := by omega
      refine ⟨fun o => k ≤ o.length ∧ o = unr n 0 k r, ⟨UnI n k r, fun o z y => (n - y).toNat, uni_start (by omega), fun o z y hI => ⟨fun hy => ⟨fun hlt => ?_, fun hge => ⟨by omega, uni_end hI (by omega)⟩⟩, fun hy => ?_⟩⟩, fun o ⟨_, ho⟩ => by rw [ho]; exact h⟩
      · obtain ⟨b, rfl, hb, h0, s1, s2, s3⟩ := uni_step hI (by omega)
        have hcb := choose_cB (n := n - b) (by omega) (k - o.length)
        unfold cB at hcb
        have eL : (k : Int) - 1 - (o.length : Int) = ((k - o.length - 1 : Nat) : Int) := by omega
        have eN : (n : Int) - 1 - (b : Int) = ((n - 1 - b : Nat) : Int) := by omega
        refine ⟨fun o z c bb => UnI n k r o z ((b : Int) + 1), ⟨⟨by omega, by omega⟩, ⟨by omega, by omega⟩, ⟨by omega, by omega⟩, ⟨by omega, by omega⟩, ?_⟩, fun o z c bb hI => ⟨⟨by omega, by omega⟩, hI, by dsimp only; omega⟩⟩
        rw [eL, eN]
        refine v_rBinomial ?_
        rw [bS_nat (by omega)]
        exact ⟨fun c => ⟨by omega, s1 c⟩, fun c => ⟨⟨by omega, by omega⟩, (s2 c).1⟩⟩
      · have hke : k ≤ o.length := by
          rcases Nat.lt_or_ge o.length k with hlt | hge
          · obtain ⟨b, rfl, hb, _⟩ := uni_step hI hlt; omega
          · exact hge
        exact ⟨hke, uni_end hI hke⟩
end Go.Proofs.Ytcmfjjbbcfddpaa
set_option linter.unusedSimpArgs false
set_option linter.unusedVariables false
set_option maxRecDepth 4000
set_option maxHeartbeats 4000000
namespace Go.Proofs.Ytcmfjjbbcfddpaa
open Go.RowKit
def V_LUnranks (n : Int) (k : Int) (r : Int) (Q : Bool → Prop) : Prop :=
  V_Unrank n k r (fun q => match q with | (x12, r16) => V_rUnrank n k r (fun q => match q with | (x18, r22) => ((r16 ≠ r22) → Q false) ∧ (¬ (r16 ≠ r22) → (V_rwSame x12 x18 (fun r25 => (((!r25) = true) → Q false) ∧ ((!r25) = false → (∃ J27 : Prop, (((r22 = (0 : Int)) → (V_Rank n x12 (fun q => match q with | (r30, r31) => ((r31 ≠ (0 : Int)) → Q false) ∧ (¬ (r31 ≠ (0 : Int)) → (((r30 ≠ r) → Q false) ∧ (¬ (r30 ≠ r) → J27)))))) ∧ (¬ (r22 = (0 : Int)) → J27)) ∧ (J27 → (V_Unrank (4 : Int) (2 : Int) (3 : Int) (fun q => match q with | (x36, r40) => ((r40 = (0 : Int)) → (V_rwSame x36 ([(1 : Int), (2 : Int)] : List Int) (fun r46 => Q r46))) ∧ (¬ (r40 = (0 : Int)) → Q false)))))))))))
theorem ok_LUnranks {w : World} {Q : Bool → Prop} {n : Int} {k : Int} {r : Int}  (hv : V_LUnranks n k r Q) :
    Calls Try.prog 16 #[.int .i64 n, .int .i64 k, .int .i64 r] w fun e w' => ∃ v Qr, e = .returned v ∧ w.grownBy w' none ∧ Rows w.heap.size none w' Qr ∧ News w.heap.size Qr ∧ ∃ (r0 : Bool), v = .bool r0 ∧ Qr = [] ∧ Q r0 := by
  refine calls_swap <| calls_of_W (vs := [.int .i64 n, .int .i64 k, .int .i64 r]) [6] XF16 rfl rfl rfl rfl ?_
  have hS := St.start w
  unfold V_LUnranks at hv
  refine W.seq <| W.region <| WL.assign rfl rfl <| WL.done <| W.seq <| W.region <| WL.move rfl rfl <| WL.move rfl rfl <| WL.move rfl rfl <| SL.call hS (ok_Unrank  hv) XF52 rfl XN52 rfl rfl ?_
  rintro _ _ w11 ⟨x12, r16, A13, k14, rfl, rfl, hv⟩ hGw11 hS
  have hS := hS.n1
  refine WL.move rfl rfl <| WL.extract rfl rfl rfl <| WL.extract rfl rfl rfl <| WL.assign rfl rfl <| WL.assign rfl rfl <| WL.done <| W.seq <| W.region <| WL.move rfl rfl <| WL.move rfl rfl <| WL.move rfl rfl <| SL.call hS (ok_rUnrank  hv) XF53 rfl XN53 rfl rfl ?_
  rintro _ _ w17 ⟨x18, r22, A19, k20, rfl, rfl, hv⟩ hGw17 hS
  have hS := hS.n1
  refine WL.move rfl rfl <| WL.extract rfl rfl rfl <| WL.extract rfl rfl rfl <| WL.assign rfl rfl <| WL.assign rfl rfl <| WL.done <| W.seq <| W.seq <| W.region <| WL.move rfl rfl <| WL.move rfl rfl <| WL.neqD rfl rfl rfl <| WL.move rfl rfl ?_
  by_cases g23 : r16 ≠ r22
  ·have hv := hv.1 g23
   rw [decide_eq_true g23]
   refine WL.pass rfl rfl rfl <| WL.pass rfl rfl rfl <| WL.pass rfl rfl rfl <| WL.pass rfl rfl rfl <| WL.pick rfl rfl rfl <| WL.done <| W.condT rfl <| W.seq <| W.region <| WL.assign rfl rfl <| WL.done <| W.ret <| ⟨_, rfl, Fin.nil ?_⟩
   exact ⟨_, hS.ext, (hS.pick [] rfl).rows, News.of (hS.pick [] rfl).rows rfl, ⟨false, rfl, rfl, hv⟩⟩
  have hv := hv.2 g23
  rw [decide_eq_false g23]
  refine WL.take rfl <| WL.move rfl rfl <| WL.take rfl <| WL.move rfl rfl <| WL.take rfl <| SL.call hS (ok_rwSame (hS.rd (i := 1) rfl) (hS.rd (i := 0) rfl) hv) XF18 rfl XN18 rfl rfl ?_
  rintro _ _ w24 ⟨r25, rfl, rfl, hv⟩ hGw24 hS
  have hS := hS.n0
  refine WL.take rfl <| WL.not rfl rfl <| WL.pick rfl rfl rfl <| WL.done <| W.cond2 rfl (fun c26 => ?_) (fun c26 => ?_)
  ·have hv := hv.1 (c26)
   refine W.seq <| W.region <| WL.assign rfl rfl <| WL.done <| W.ret <| ⟨_, rfl, Fin.nil ?_⟩
   exact ⟨_, hS.ext, (hS.pick [] rfl).rows, News.of (hS.pick [] rfl).rows rfl, ⟨false, rfl, rfl, hv⟩⟩
  have hv := hv.2 (c26)
  refine W.skip <| W.seq <| W.seq <| W.region <| WL.move rfl rfl <| WL.eqlD rfl rfl rfl <| WL.done ?_
  obtain ⟨J27, hv, hk47⟩ := hv
  refine W.cutN (σ := Unit) (fun _ w1 => J27 ∧ St TT w none w1 [.row 3 1 A19 x18.length k20 (is x18), .row 3 1 A13 x12.length k14 (is x12)]) (fun _ => [(6, .bool false)]) ?_ ?_
  ·refine W.cond2 rfl (fun c28 => ?_) (fun c28 => ?_)
   ·have hv := hv.1 (of_decide_eq_true c28)
    refine W.seq <| W.region <| WL.move rfl rfl <| WL.move rfl rfl <| SL.call hS (ok_Rank (hS.rd (i := 1) rfl) hv) XF50 rfl XN50 rfl rfl ?_
    rintro _ _ w29 ⟨r30, r31, rfl, rfl, hv⟩ hGw29 hS
    have hS := hS.n0
    refine WL.move rfl rfl <| WL.extract rfl rfl rfl <| WL.extract rfl rfl rfl <| WL.assign rfl rfl <| WL.assign rfl rfl <| WL.done <| W.seq <| W.region <| WL.move rfl rfl <| WL.neqD rfl rfl rfl <| WL.move rfl rfl ?_
    by_cases g32 : r31 ≠ (0 : Int)
    ·have hv := hv.1 g32
     rw [decide_eq_true g32]
     refine WL.pass rfl rfl rfl <| WL.pass rfl rfl rfl <| WL.pass rfl rfl rfl <| WL.pick rfl rfl rfl <| WL.done <| W.condT rfl <| W.seq <| W.region <| WL.assign rfl rfl <| WL.done <| W.ret <| ⟨_, rfl, Fin.nil ?_⟩
     exact ⟨_, hS.ext, (hS.pick [] rfl).rows, News.of (hS.pick [] rfl).rows rfl, ⟨false, rfl, rfl, hv⟩⟩
    have hv := hv.2 g32
    rw [decide_eq_false g32]
    refine WL.take rfl <| WL.move rfl rfl <| WL.take rfl <| WL.move rfl rfl <| WL.take rfl <| WL.neqD rfl rfl rfl <| WL.pick rfl rfl rfl <| WL.done <| W.cond2 rfl (fun c33 => ?_) (fun c33 => ?_)
    ·have hv := hv.1 (of_decide_eq_true c33)
     refine W.seq <| W.region <| WL.assign rfl rfl <| WL.done <| W.ret <| ⟨_, rfl, Fin.nil ?_⟩
     exact ⟨_, hS.ext, (hS.pick [] rfl).rows, News.of (hS.pick [] rfl).rows rfl, ⟨false, rfl, rfl, hv⟩⟩
    have hv := hv.2 (of_decide_eq_false c33)
    refine W.skip ?_
    exact ⟨(), ⟨rfl, trivial⟩, rfl, hv, hS⟩
   have hv := hv.2 (of_decide_eq_false c28)
   refine W.skip ?_
   exact ⟨(), ⟨rfl, trivial⟩, rfl, hv, hS⟩
  rintro _ w34 ⟨hv, hS⟩
  have hv := hk47  hv
  refine W.seq <| W.region <| SL.call hS (ok_Unrank  hv) XF52 rfl XN52 rfl rfl ?_
  rintro _ _ w35 ⟨x36, r40, A37, k38, rfl, rfl, hv⟩ hGw35 hS
  have hS := hS.n1
  refine WL.move rfl rfl <| WL.extract rfl rfl rfl <| WL.extract rfl rfl rfl <| WL.assign rfl rfl <| WL.assign rfl rfl <| WL.done <| W.seq <| W.region <| WL.move rfl rfl <| WL.eqlD rfl rfl rfl <| WL.move rfl rfl ?_
  by_cases g41 : r40 = (0 : Int)
  ·have hv := hv.1 g41
   rw [decide_eq_true g41]
   refine WL.take rfl <| WL.move rfl rfl <| WL.take rfl <| SL.lit1 (vs := is ([(1 : Int), (2 : Int)] : List Int)) hS XU22 XE3 rfl rfl rfl rfl (is_one _) rfl ?_
   intro A42 w43 hS
   refine WL.take rfl <| SL.call hS (ok_rwSame (hS.rd (i := 1) rfl) (hS.rd (i := 0) rfl) hv) XF18 rfl XN18 rfl rfl ?_
   rintro _ _ w45 ⟨r46, rfl, rfl, hv⟩ hGw45 hS
   have hS := hS.n0
   refine WL.pick rfl rfl rfl <| WL.assign rfl rfl <| WL.done <| W.ret <| ⟨_, rfl, Fin.nil ?_⟩
   exact ⟨_, hS.ext, (hS.pick [] rfl).rows, News.of (hS.pick [] rfl).rows rfl, ⟨r46, rfl, rfl, hv⟩⟩
  have hv := hv.2 g41
  rw [decide_eq_false g41]
  refine WL.pass rfl rfl rfl <| WL.pass rfl rfl rfl <| WL.pass rfl rfl rfl <| WL.pick rfl rfl rfl <| WL.assign rfl rfl <| WL.done <| W.ret <| ⟨_, rfl, Fin.nil ?_⟩
  exact ⟨_, hS.ext, (hS.pick [] rfl).rows, News.of (hS.pick [] rfl).rows rfl, ⟨false, rfl, rfl, hv⟩⟩
end Go.Proofs.Ytcmfjjbbcfddpaa
set_option linter.unusedVariables false
set_option linter.unusedSimpArgs false
namespace Go.Proofs.Ytcmfjjbbcfddpaa
theorem v_rUnrankP {n k r : Int} {Q : List Int × Int → Prop} (h : ∀ a b, unS n k r = (a, b) → Q (a, b)) : V_rUnrank n k r Q := v_rUnrank (pairE h)
section
variable {P M : Int} {mf : List Int}
end
theorem law_WordUnranks {n k r : Int} (hk : k ≤ 9223372036854775807) : V_LUnranks n k r (fun b => b = true) := by
  refine v_UnrankP hk (fun c1 c2 hc => v_rUnrankP (fun d1 d2 hd => ?_))
  obtain ⟨rfl, rfl⟩ := pairQ hc hd
  have fin : V_Unrank 4 2 3 (fun q => match q with | (x36, r40) => ((r40 = (0 : Int)) → (V_rwSame x36 ([(1 : Int), (2 : Int)] : List Int) (fun r46 => (fun b => b = true) r46))) ∧ (¬ (r40 = (0 : Int)) → (fun b => b = true) false)) := by
    refine v_Unrank (by decide) ?_
    rw [show unS 4 2 3 = ([1, 2], 0) from by decide +kernel]
    exact ⟨fun _ => v_rwSame (by decide) (by decide), fun c => absurd rfl c⟩
  unfold unS at hc
  by_cases c : k < 0 ∨ n < k ∨ 64 < n ∨ r < 0 ∨ ((choose n.toNat k.toNat : Nat) : Int) ≤ r
  · rw [if_pos c] at hc
    obtain ⟨rfl, rfl⟩ := Prod.mk.inj hc
    refine ⟨fun e => absurd rfl e, fun _ => v_rwSame (by simp) ?_⟩
    rw [decide_eq_true rfl]
    exact ⟨fun h => absurd h (by decide), fun _ => ⟨True, ⟨fun e => absurd e (by decide), fun _ => trivial⟩, fun _ => fin⟩⟩
  · rw [if_neg c] at hc
    obtain ⟨n, rfl⟩ : ∃ a : Nat, n = a := ⟨n.toNat, by omega⟩
    obtain ⟨k, rfl⟩ : ∃ a : Nat, k = a := ⟨k.toNat, by omega⟩
    obtain ⟨r, rfl⟩ : ∃ a : Nat, r = a := ⟨r.toNat, by omega⟩
    simp only [Int.toNat_natCast] at c hc
    obtain ⟨rfl, rfl⟩ := Prod.mk.inj hc
    obtain ⟨u1, u2, u3⟩ := rk_unr n 0 k r (by omega)
    rw [asc_zero] at u3
    have hl : (unr n 0 k r).length ≤ 4611686018427387904 := by rw [u2]; omega
    refine ⟨fun e => absurd rfl e, fun _ => v_rwSame hl ?_⟩
    rw [decide_eq_true rfl]
    refine ⟨fun h => absurd h (by decide), fun _ => ⟨True, ⟨fun _ => v_Rank hl ?_, fun _ => trivial⟩, fun _ => fin⟩⟩
    rw [show rkS n (unr n 0 k r) = ((r : Int), 0) by unfold rkS; rw [if_neg (by omega), if_pos u3, Int.toNat_natCast, u1]]
    exact ⟨fun e => absurd rfl e, fun _ => ⟨fun e => absurd rfl e, fun _ => trivial⟩⟩
end Go.Proofs.Ytcmfjjbbcfddpaa
