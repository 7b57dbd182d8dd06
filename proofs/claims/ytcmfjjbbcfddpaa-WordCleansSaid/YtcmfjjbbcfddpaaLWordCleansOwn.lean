/- What only this law leans on. -/
import Derived.Test.YtcmfjjbbcfddpaaWordCleansG7
set_option linter.unusedVariables false
namespace Go.Proofs.Ytcmfjjbbcfddpaa
open Go.RowKit
theorem Try.nm22 : (Try.f22.name == "runtime.NumGoroutine") = false := by kernel_rfl
end Go.Proofs.Ytcmfjjbbcfddpaa
namespace Go.Proofs.Ytcmfjjbbcfddpaa
open Go.RowKit
abbrev XF22 := Try.func22
abbrev XF3 := Try.func3
abbrev XN22 := Try.nm22
end Go.Proofs.Ytcmfjjbbcfddpaa
set_option linter.unusedSimpArgs false
set_option linter.unusedVariables false
set_option maxRecDepth 4000
set_option maxHeartbeats 4000000
namespace Go.Proofs.Ytcmfjjbbcfddpaa
open Go.RowKit
def V_rSupport (Pf : Int) (Mf : Int) (mf : List Int) (l : List Int) (Q : List Int → Prop) : Prop :=
  V_rClean Pf Mf mf l (fun x14 => ∃ (I33 : List Int → Int → Prop) (μ34 : List Int → Int → Nat), I33 ([] : List Int) (0 : Int) ∧ ∀ (x29 : List Int) (z32 : Int), (I33 x29 z32 → (((z32 < ((x14.length : Nat) : Int)) → (∃ J40 : List Int → Prop, ((0 ≤ z32 ∧ z32 < (x14.length : Nat)) ∧ ((((gi x14 z32) ≠ (0 : Int)) → ((((x29.length : Nat) + (1 : Nat) : Int) * 8 ≤ 140737488355328) ∧ (J40 (x29 ++ ([z32] : List Int))))) ∧ (¬ ((gi x14 z32) ≠ (0 : Int)) → J40 x29))) ∧ ∀ (x37 : List Int), (J40 x37 → ((I64 (z32 + (1 : Int))) ∧ (I33 x37 (z32 + (1 : Int)) ∧ μ34 x37 (z32 + (1 : Int)) < μ34 x29 z32))))) ∧ (¬ (z32 < ((x14.length : Nat) : Int)) → Q x29))))
theorem ok_rSupport {w : World} {Q : List Int → Prop} {Pf : Int} {Mf : Int} {mf : List Int} {l : List Int} {Bf : Nat} {Af : Option Addr} {nf kf : Nat} (hf : Rd Bf w 1 Af nf kf (is mf)) {Bl : Nat} {Al : Option Addr} {nl kl : Nat} (hl : Rd Bl w 1 Al nl kl (is l)) (hv : V_rSupport Pf Mf mf l Q) :
    Calls Try.prog 22 #[.agg #[.int .i64 Pf, .int .i64 Mf, .slice Af nf kf], .slice Al nl kl] w fun e w' => ∃ v Qr, e = .returned v ∧ w.grownBy w' none ∧ Rows w.heap.size none w' Qr ∧ News w.heap.size Qr ∧ ∃ (r0 : List Int) (Ar0 : Option Addr) (cr0 : Nat), v = .slice Ar0 r0.length cr0 ∧ Qr = [.row 3 1 Ar0 r0.length cr0 (is r0)] ∧ Q r0 := by
  have hnf := hf.ilen
  subst hnf
  have hnl := hl.ilen
  subst hnl
  refine calls_swap <| calls_of_W (vs := [.agg #[.int .i64 Pf, .int .i64 Mf, .slice Af mf.length kf], .slice Al l.length kl]) [4] XF22 rfl rfl rfl rfl ?_
  have hS := St.start w
  unfold V_rSupport at hv
  refine W.seq <| W.region <| SL.box (z := 3) (cs := [.int .i64 Pf, .int .i64 Mf, .slice Af mf.length kf]) hS rfl rfl rfl rfl ?_
  intro g11 w12 hS
  refine WL.assign rfl rfl <| WL.done <| W.seq <| W.region <| WL.loadV (cs := [.int .i64 Pf, .int .i64 Mf, .slice Af mf.length kf]) XE24 XG24 rfl rfl (Own.vcells (hS.own (i := 0) rfl)) rfl <| WL.move rfl rfl <| SL.call hS (ok_rClean (hS.ro hf) (hS.ro hl) hv) XF20 rfl XN20 rfl rfl ?_
  rintro _ _ w13 ⟨x14, A15, k16, rfl, rfl, hv⟩ hGw13 hS
  have hS := hS.n1
  refine WL.assign rfl rfl <| WL.done <| W.seq <| W.region <| SL.lit1 (vs := is ([] : List Int)) hS XU22 XE3 rfl rfl rfl rfl (is_one _) rfl ?_
  intro A18 w19 hS
  refine WL.assign rfl rfl <| WL.done <| W.seq <| W.seq <| W.region <| WL.assign rfl rfl <| WL.done <| W.block ?_
  obtain ⟨I33, μ34, hv, hk53⟩ := hv
  have hm0 : 0 = ([] : List Int).length := (hS.rd (i := 0) rfl).ilen.symm
  have hS := hS.relen (i := 0) rfl hm0
  change St _ _ _ _ [.row 3 1 A18 ([] : List Int).length 0 (is ([] : List Int)), .row 3 1 A15 x14.length k16 (is x14), .row 24 3 (some ⟨g11, 0, none⟩) 1 1 [.int .i64 Pf, .int .i64 Mf, .slice Af mf.length kf]] at hS
  refine W.loop (σ := List Int × Int × Option Addr × Nat) (fun q w1 => match q with | (x29, z32, A30, k31) => I33 x29 z32 ∧ St TT w none w1 [.row 3 1 A30 x29.length k31 (is x29), .row 3 1 A15 x14.length k16 (is x14), .row 24 3 (some ⟨g11, 0, none⟩) 1 1 [.int .i64 Pf, .int .i64 Mf, .slice Af mf.length kf]]) (fun q => match q with | (x29, z32, A30, k31) => [(4, .slice none 0 0), (5, .slice A15 x14.length k16), (6, .slice A30 x29.length k31), (7, .int .i64 z32)]) (fun q => match q with | (x29, z32, A30, k31) => μ34 x29 z32) (([] : List Int), (0 : Int), A18, 0) ⟨hv, hS⟩ ⟨rfl, rfl, (sm (by first | rfl | assumption | omega)), rfl, trivial⟩ ?_
  rintro ⟨x29, z32, A30, k31⟩ w35 ⟨hv, hS⟩
  have hv := hk53 x29 z32 hv
  refine W.seq <| W.seq <| W.region <| WL.move rfl rfl <| WL.move rfl rfl <| WL.len XU22 rfl rfl <| WL.lssD rfl rfl rfl <| WL.done <| W.cond2 rfl (fun c36 => ?_) (fun c36 => ?_)
  ·have hv := hv.1 (of_decide_eq_true c36)
   refine W.skip <| W.seq ?_
   obtain ⟨J40, hv, hk52⟩ := hv
   refine W.cutN (σ := List Int × Option Addr × Nat) (fun q w1 => match q with | (x37, A38, k39) => J40 x37 ∧ St TT w none w1 [.row 3 1 A38 x37.length k39 (is x37), .row 3 1 A15 x14.length k16 (is x14), .row 24 3 (some ⟨g11, 0, none⟩) 1 1 [.int .i64 Pf, .int .i64 Mf, .slice Af mf.length kf]]) (fun q => match q with | (x37, A38, k39) => [(4, .slice none 0 0), (5, .slice A15 x14.length k16), (6, .slice A38 x37.length k39), (7, .int .i64 z32), (15, .bool (decide (z32 < ((x14.length : Nat) : Int)))), (22, .bool (decide ((gi x14 z32) ≠ (0 : Int))))]) ?_ ?_
   ·refine W.block ?_
    refine W.seq <| W.region <| WL.move rfl rfl <| WL.move rfl rfl ?_
    obtain ⟨o41, hv⟩ := hv
    refine SL.index XU22 XE3 (hS.rd (i := 1) rfl) rfl rfl o41 rfl <| WL.load XU3 rfl rfl (Rd.gi (hS.rd (i := 1) rfl) o41) rfl <| WL.neqD rfl rfl rfl <| WL.done <| W.cond2 rfl (fun c42 => ?_) (fun c42 => ?_)
    ·have hv := hv.1 (of_decide_eq_true c42)
     refine W.region <| WL.move rfl rfl <| WL.move rfl rfl <| SL.lit1 (vs := is ([z32] : List Int)) hS XU22 XE3 rfl rfl rfl rfl (is_one _) rfl ?_
     intro A43 w44 hS
     obtain ⟨o46, hv⟩ := hv
     refine SL.append (cs := is x29) (cs' := is ([z32] : List Int)) 1 ((x29 ++ ([z32] : List Int)).length) (is (x29 ++ ([z32] : List Int))) hS rfl XU22 XE3 (hS.rd (i := 0) rfl) (is_one _) rfl rfl (apk o46).1 (apk o46).2 (is_ap (hS.rd (i := 1) rfl) (hS.rd (i := 0) rfl)) (is_append _ _) rfl ?_
     intro A47 k48 w49 hS
     refine WL.assign rfl rfl <| WL.done ?_
     have hS := hS.pick [1, 2, 3] rfl
     exact ⟨(x29 ++ ([z32] : List Int), A47, k48), ⟨rfl, rfl, rfl, rfl, rfl, rfl, trivial⟩, rfl, hv, hS⟩
    have hv := hv.2 (of_decide_eq_false c42)
    refine W.skip ?_
    exact ⟨(x29, A30, k31), ⟨rfl, rfl, rfl, rfl, rfl, rfl, trivial⟩, rfl, hv, hS⟩
   rintro ⟨x37, A38, k39⟩ w50 ⟨hv, hS⟩
   have hv := hk52 x37 hv
   refine W.region <| WL.move rfl rfl ?_
   obtain ⟨o51, hv⟩ := hv
   refine WL.add (r := (z32 + (1 : Int))) rfl rfl (wr o51) rfl <| WL.assign rfl rfl <| WL.done ?_
   exact ⟨(x37, (z32 + (1 : Int)), A38, k39), ⟨rfl, rfl, rfl, rfl, trivial⟩, hv.2, rfl, hv.1, hS⟩
  have hv := hv.2 (of_decide_eq_false c36)
  refine W.exit <| W.seq <| W.region <| WL.move rfl rfl <| WL.assign rfl rfl <| WL.done <| W.ret <| ⟨_, rfl, Fin.nil ?_⟩
  exact ⟨_, hS.ext, (hS.pick [0] rfl).rows, News.of (hS.pick [0] rfl).rows rfl, ⟨x29, A30, k31, rfl, rfl, hv⟩⟩
end Go.Proofs.Ytcmfjjbbcfddpaa
set_option linter.unusedVariables false
set_option linter.unusedSimpArgs false
namespace Go.Proofs.Ytcmfjjbbcfddpaa
section
variable {F : GFv} {p m v g : Nat}
end
section
variable {F : GFv} {p m v g : Nat}
end
section
variable {F : GFv} {p m v g : Nat}
end
section
variable {P M : Int} {mf : List Int} {p m v : Nat}
theorem v_rSupport (F : FV P M mf p m v) {l : List Int} {Q : List Int → Prop} (hl : l.length ≤ LB) (h : Q (spt (p ^ m) l)) : V_rSupport P M mf l Q := by
  refine v_rClean F hl ?_
  have hcl := cl_len (p ^ m) l
  unfold LB at hl
  refine ⟨fun x z => ∃ k : Nat, z = k ∧ k ≤ l.length ∧ x = pos (nzf (p ^ m) l) k, fun x z => (l.length - z).toNat, ⟨0, rfl, Nat.zero_le _, rfl⟩, ?_⟩
  rintro x _ ⟨k, rfl, hk, rfl⟩
  have hpl := pos_len (nzf (p ^ m) l) k
  have hcn := cnp_le (nzf (p ^ m) l) k
  dsimp only
  rw [gi_nat]
  refine ⟨fun hlt => ?_, fun hge => by rw [show k = l.length by omega]; exact h⟩
  rw [cl_at (show k < l.length by omega)]
  refine ⟨fun y => y = pos (nzf (p ^ m) l) (k + 1), ⟨⟨by omega, by omega⟩, fun h0 => ⟨by omega, pos_yes (decide_eq_true (by omega))⟩, fun h0 => pos_no (decide_eq_false (by omega))⟩, ?_⟩
  rintro y rfl
  exact ⟨⟨by omega, by omega⟩, ⟨k + 1, by push_cast; rfl, by omega, rfl⟩, by omega⟩
end
end Go.Proofs.Ytcmfjjbbcfddpaa
set_option linter.unusedSimpArgs false
set_option linter.unusedVariables false
set_option maxRecDepth 4000
set_option maxHeartbeats 4000000
namespace Go.Proofs.Ytcmfjjbbcfddpaa
open Go.RowKit
def V_LCleans (Pf : Int) (Mf : Int) (mf : List Int) (l : List Int) (Q : Bool → Prop) : Prop :=
  V_open Pf Mf mf (fun q => match q with | (none, r15) => Q r15 | (some F16, _) => ∃ (x25 : List Int), V_Clean F16 l (fun q => q = x25) ∧ (∃ (x36 : List Int), V_rClean Pf Mf mf l (fun q => q = x36) ∧ (∃ (r45 : Bool), V_rwSame x25 x36 (fun q => q = r45) ∧ ((((!r45) = true) → Q false) ∧ ((!r45) = false → (V_Support F16 l (fun x52 => V_rSupport Pf Mf mf l (fun x57 => V_rwSame x52 x57 (fun r62 => (((!r62) = true) → Q false) ∧ ((!r62) = false → (V_Weight F16 l (fun r65 => ((r65 ≠ ((x52.length : Nat) : Int)) → Q false) ∧ (¬ (r65 ≠ ((x52.length : Nat) : Int)) → (V_Weight F16 ([(1 : Int), (0 : Int), (-1 : Int), (1 : Int)] : List Int) (fun r71 => Q (decide (r71 = (2 : Int))))))))))))))))))
theorem ok_LCleans {w : World} {Q : Bool → Prop} {Pf : Int} {Mf : Int} {mf : List Int} {l : List Int} {Bf : Nat} {Af : Option Addr} {nf kf : Nat} (hf : Rd Bf w 1 Af nf kf (is mf)) {Bl : Nat} {Al : Option Addr} {nl kl : Nat} (hl : Rd Bl w 1 Al nl kl (is l)) (hv : V_LCleans Pf Mf mf l Q) :
    Calls Try.prog 3 #[.agg #[.int .i64 Pf, .int .i64 Mf, .slice Af nf kf], .slice Al nl kl] w fun e w' => ∃ v Qr, e = .returned v ∧ w.grownBy w' none ∧ Rows w.heap.size none w' Qr ∧ News w.heap.size Qr ∧ ∃ (r0 : Bool), v = .bool r0 ∧ Qr = [] ∧ Q r0 := by
  have hnf := hf.ilen
  subst hnf
  have hnl := hl.ilen
  subst hnl
  refine calls_swap <| calls_of_W (vs := [.agg #[.int .i64 Pf, .int .i64 Mf, .slice Af mf.length kf], .slice Al l.length kl]) [4] XF3 rfl rfl rfl rfl ?_
  have hS := St.start w
  unfold V_LCleans at hv
  refine W.seq <| W.region <| SL.box (z := 3) (cs := [.int .i64 Pf, .int .i64 Mf, .slice Af mf.length kf]) hS rfl rfl rfl rfl ?_
  intro g11 w12 hS
  refine WL.assign rfl rfl <| WL.done <| W.seq <| W.region <| WL.loadV (cs := [.int .i64 Pf, .int .i64 Mf, .slice Af mf.length kf]) XE24 XG24 rfl rfl (Own.vcells (hS.own (i := 0) rfl)) rfl <| SL.call hS (ok_open (hS.ro hf) hv) XF17 rfl XN17 rfl rfl ?_
  rintro _ _ w14 ⟨o, r15, hv, hK⟩ hGw14 hS
  cases o with
  | none =>
    obtain ⟨rfl, rfl⟩ := hK
    change St _ _ _ _ [.row 24 3 (some ⟨g11, 0, none⟩) 1 1 [.int .i64 Pf, .int .i64 Mf, .slice Af mf.length kf]] at hS
    refine WL.move rfl rfl <| WL.extract rfl rfl rfl <| WL.extract rfl rfl rfl <| WL.extract rfl rfl rfl <| WL.assign rfl rfl <| WL.assign rfl rfl <| WL.assign rfl rfl <| WL.done <| W.seq <| W.seq <| W.region <| WL.move rfl rfl <| WL.done <| W.condT rfl <| W.seq <| W.region <| WL.move rfl rfl <| WL.assign rfl rfl <| WL.done <| W.ret <| ⟨_, rfl, Fin.nil ?_⟩
    exact ⟨_, hS.ext, (hS.pick [] rfl).rows, News.of (hS.pick [] rfl).rows rfl, ⟨r15, rfl, rfl, hv⟩⟩
  | some F16 =>
    obtain ⟨ad17, lo18, hi19, rfl, rfl⟩ := hK
    change St _ _ _ _ [.ch lo18 hi19 (fun wz => GFX lo18 hi19 wz ad17 F16), .row 24 3 (some ⟨g11, 0, none⟩) 1 1 [.int .i64 Pf, .int .i64 Mf, .slice Af mf.length kf]] at hS
    refine WL.move rfl rfl <| WL.extract rfl rfl rfl <| WL.extract rfl rfl rfl <| WL.extract rfl rfl rfl <| WL.assign rfl rfl <| WL.assign rfl rfl <| WL.assign rfl rfl <| WL.done <| W.seq <| W.seq <| W.region <| WL.move rfl rfl <| WL.done <| W.condF rfl <| W.skip <| W.seq <| W.seq ?_
    obtain ⟨x25, o32, hv⟩ := hv
    obtain ⟨x36, o43, hv⟩ := hv
    obtain ⟨r45, o47, hv⟩ := hv
    have hS0 := hS
    refine W.drawX 8 (fun iA => [false, false, true, false, false, true, false, false].getD iA false) (fun _ => none) (fun _ v => v) [⟨[], [5], true⟩, ⟨[], [1], true⟩, ⟨[0, 1], [], false⟩, ⟨[], [2], false⟩, ⟨[], [1], true⟩, ⟨[3, 4], [], false⟩, ⟨[2, 5], [], false⟩, ⟨[6], [], true⟩] [[(5, .pointer (some ad17))], [(1, .slice Al l.length kl)], [], [(2, .pointer (some ⟨g11, 0, none⟩))], [(1, .slice Al l.length kl)], [], [], []] (fun iQ => [fun v _ => v = .pointer (some ad17), fun v _ => v = .slice Al l.length kl, fun v wQ => ∃ A26_2 k27_2, v = .slice A26_2 x25.length k27_2 ∧ Own 0 wQ 3 1 A26_2 x25.length k27_2 (is x25) ∧ (∀ g, bl A26_2 = some g → w14.heap.size ≤ g), fun v _ => v = .agg #[.int .i64 Pf, .int .i64 Mf, .slice Af mf.length kf], fun v _ => v = .slice Al l.length kl, fun v wQ => ∃ A37_5 k38_5, v = .slice A37_5 x36.length k38_5 ∧ Own 0 wQ 3 1 A37_5 x36.length k38_5 (is x36) ∧ (∀ g, bl A37_5 = some g → w14.heap.size ≤ g), fun v _ => v = .bool r45, fun v _ => v = .bool (!r45)].getD iQ (fun _ _ => True)) (fun _ => vbD) Try.mixed (by kernel_rfl) ?_ (fun _ _ _ _ _ _ _ h => h) (by kernel_rfl) ?_ ?_
    · refine Vs_monoT _ ?_
      intro VQ hVQ vQ wQ1 wQ2 hQ1 hQ2
      simp only [List.mem_cons, List.not_mem_nil, or_false] at hVQ
      rcases hVQ with rfl | rfl | rfl | rfl | rfl | rfl | rfl | rfl
      any_goals exact hQ1
      · obtain ⟨A26_2, k27_2, hQe, hO30_2, hN31_2⟩ := hQ1
        exact ⟨A26_2, k27_2, hQe, hO30_2.ext hQ2, hN31_2⟩
      obtain ⟨A37_5, k38_5, hQe, hO41_5, hN42_5⟩ := hQ1
      exact ⟨A37_5, k38_5, hQe, hO41_5.ext hQ2, hN42_5⟩
    · refine ⟨⟨rfl, ⟨rfl, trivial⟩, ?_⟩, ⟨rfl, ⟨rfl, trivial⟩, ?_⟩, ⟨rfl, trivial, ?_⟩, ⟨rfl, ⟨rfl, trivial⟩, ?_⟩, ⟨rfl, ⟨rfl, trivial⟩, ?_⟩, ⟨rfl, trivial, ?_⟩, ⟨rfl, trivial, ?_⟩, ⟨rfl, trivial, ?_⟩, trivial⟩
      · intro w22 hE
        intro RR
        refine WL.move rfl rfl ?_
        exact WL.done ⟨_, rfl, dnq rfl rfl rfl rfl⟩
      · intro w23 hE
        intro RR
        refine WL.move rfl rfl ?_
        exact WL.done ⟨_, rfl, dnq rfl rfl rfl rfl⟩
      · intro w24 hE
        have hE := hE rfl
        have hS := hS.grow hE
        rintro _ rfl
        rintro _ rfl
        intro RR
        refine WL.call XF19 rfl XN19 rfl rfl (calls_un (ok_Clean (GFX.gfr (hS.chunk (i := 0) rfl)) (hS.ro hl) o32)) ?_
        rintro _ w29 ⟨_, hGw29, hRww29, hNww29, x25q, A26, k27, rfl, rfl, he⟩
        subst he
        have hO30 := (hRww29.get (i := 0) rfl).1
        have hN31 : ∀ g, bl A26 = some g → _ ≤ g := fun g hg => Nat.le_trans hE.size (hNww29.1 g hg)
        exact WL.done ⟨_, rfl, hGw29, ⟨A26, k27, rfl, hO30, hN31⟩, (fun _ => fun g hg => ⟨hNww29.1 g hg, (hO30.bl_ge g hg).2⟩), (fun j h => by cases h)⟩
      · intro w33 hE
        have hE := hE rfl
        have hS := hS.grow hE
        intro RR
        refine WL.loadV (cs := [.int .i64 Pf, .int .i64 Mf, .slice Af mf.length kf]) XE24 XG24 rfl rfl (Own.vcells (hS.own (i := 1) rfl)) rfl ?_
        exact WL.done ⟨_, rfl, dnq (ext_refl _) rfl rfl rfl⟩
      · intro w34 hE
        intro RR
        refine WL.move rfl rfl ?_
        exact WL.done ⟨_, rfl, dnq rfl rfl rfl rfl⟩
      · intro w35 hE
        have hE := hE rfl
        have hS := hS.grow hE
        rintro _ rfl
        rintro _ rfl
        intro RR
        refine WL.call XF20 rfl XN20 rfl rfl (calls_un (ok_rClean (hS.ro hf) (hS.ro hl) o43)) ?_
        rintro _ w40 ⟨_, hGw40, hRww40, hNww40, x36q, A37, k38, rfl, rfl, he⟩
        subst he
        have hO41 := (hRww40.get (i := 0) rfl).1
        have hN42 : ∀ g, bl A37 = some g → _ ≤ g := fun g hg => Nat.le_trans hE.size (hNww40.1 g hg)
        exact WL.done ⟨_, rfl, hGw40, ⟨A37, k38, rfl, hO41, hN42⟩, (fun _ => fun g hg => ⟨hNww40.1 g hg, (hO41.bl_ge g hg).2⟩), (fun j h => by cases h)⟩
      · intro w44 hE
        have hE := hE rfl
        have hS := hS.grow hE
        rintro _ ⟨A26_2, k27_2, rfl, hO30_2, hN31_2⟩
        rintro _ ⟨A37_5, k38_5, rfl, hO41_5, hN42_5⟩
        intro RR
        refine WL.call XF18 rfl XN18 rfl rfl (calls_un (ok_rwSame hO30_2.rd hO41_5.rd o47)) ?_
        rintro _ w46 ⟨_, hGw46, hRww46, hNww46, r45q, rfl, rfl, he⟩
        subst he
        exact WL.done ⟨_, rfl, dnq hGw46 rfl rfl rfl⟩
      intro w48 hE
      rintro _ rfl
      intro RR
      refine WL.not rfl rfl ?_
      exact WL.done ⟨_, rfl, dnq rfl rfl rfl rfl⟩
    intro vals w49 hT hVs hAp hCp
    have hS := hS.grow hT
    have hv0 : vals 0 = _ := hVs 0 (by decide)
    have hv1 : vals 1 = _ := hVs 1 (by decide)
    obtain ⟨A26_2, k27_2, hv2, hO30_2, hN31_2⟩ := hVs 2 (by decide)
    have hv3 : vals 3 = _ := hVs 3 (by decide)
    have hv4 : vals 4 = _ := hVs 4 (by decide)
    obtain ⟨A37_5, k38_5, hv5, hO41_5, hN42_5⟩ := hVs 5 (by decide)
    have hv6 : vals 6 = _ := hVs 6 (by decide)
    have hv7 : vals 7 = _ := hVs 7 (by decide)
    show WA _ _ _ _ _ _ _ _ ([(17, vals 0), (18, vals 1), (19, vals 2), (20, vals 3), (21, vals 4), (22, vals 5), (23, vals 6), (24, vals 7)] ++ _) _
    rw [hv0, hv1, hv2, hv3, hv4, hv5, hv6, hv7]
    refine WA.done (by decide +kernel) <| W.cond2 rfl (fun c50 => ?_) (fun c50 => ?_)
    ·have hv := hv.1 (c50)
     refine W.seq <| W.region <| WL.assign rfl rfl <| WL.done <| W.ret <| ⟨_, rfl, Fin.nil ?_⟩
     exact ⟨_, hS.ext, (hS.pick [] rfl).rows, News.of (hS.pick [] rfl).rows rfl, ⟨false, rfl, rfl, hv⟩⟩
    have hv := hv.2 (c50)
    refine W.skip <| W.seq <| W.region <| WL.move rfl rfl <| WL.move rfl rfl <| SL.call hS (ok_Support (GFX.gfr (hS.chunk (i := 0) rfl)) (hS.ro hl) hv) XF21 rfl XN21 rfl rfl ?_
    rintro _ _ w51 ⟨x52, A53, k54, rfl, rfl, hv⟩ hGw51 hS
    have hS := hS.n1
    refine WL.assign rfl rfl <| WL.done <| W.seq <| W.seq <| W.region <| WL.move rfl rfl <| WL.loadV (cs := [.int .i64 Pf, .int .i64 Mf, .slice Af mf.length kf]) XE24 XG24 rfl rfl (Own.vcells (hS.own (i := 2) rfl)) rfl <| WL.move rfl rfl <| SL.call hS (ok_rSupport (hS.ro hf) (hS.ro hl) hv) XF22 rfl XN22 rfl rfl ?_
    rintro _ _ w56 ⟨x57, A58, k59, rfl, rfl, hv⟩ hGw56 hS
    have hS := hS.n1
    refine SL.call hS (ok_rwSame (hS.rd (i := 1) rfl) (hS.rd (i := 0) rfl) hv) XF18 rfl XN18 rfl rfl ?_
    rintro _ _ w61 ⟨r62, rfl, rfl, hv⟩ hGw61 hS
    have hS := hS.n0
    refine WL.not rfl rfl <| WL.move rfl rfl ?_
    rcases g63 : (!r62) with _ | _
    ·have hv := hv.2 g63
     refine WL.take rfl <| WL.move rfl rfl <| WL.take rfl <| WL.move rfl rfl <| WL.take rfl <| SL.call hS (ok_Weight (GFX.gfr (hS.chunk (i := 2) rfl)) (hS.ro hl) hv) XF23 rfl XN23 rfl rfl ?_
     rintro _ _ w64 ⟨r65, rfl, rfl, hv⟩ hGw64 hS
     have hS := hS.n0
     refine WL.take rfl <| WL.move rfl rfl <| WL.take rfl <| WL.len XU22 rfl rfl <| WL.take rfl <| WL.neqD rfl rfl rfl <| WL.pick rfl rfl rfl <| WL.done <| W.cond2 rfl (fun c66 => ?_) (fun c66 => ?_)
     ·have hv := hv.1 (of_decide_eq_true c66)
      refine W.seq <| W.region <| WL.assign rfl rfl <| WL.done <| W.ret <| ⟨_, rfl, Fin.nil ?_⟩
      exact ⟨_, hS.ext, (hS.pick [] rfl).rows, News.of (hS.pick [] rfl).rows rfl, ⟨false, rfl, rfl, hv⟩⟩
     have hv := hv.2 (of_decide_eq_false c66)
     refine W.skip <| W.seq <| W.region <| WL.move rfl rfl <| SL.lit1 (vs := is ([(1 : Int), (0 : Int), (-1 : Int), (1 : Int)] : List Int)) hS XU22 XE3 rfl rfl rfl rfl (is_one _) rfl ?_
     intro A67 w68 hS
     refine SL.call hS (ok_Weight (GFX.gfr (hS.chunk (i := 3) rfl)) (hS.rd (i := 0) rfl) hv) XF23 rfl XN23 rfl rfl ?_
     rintro _ _ w70 ⟨r71, rfl, rfl, hv⟩ hGw70 hS
     have hS := hS.n0
     refine WL.eqlD rfl rfl rfl <| WL.assign rfl rfl <| WL.done <| W.ret <| ⟨_, rfl, Fin.nil ?_⟩
     exact ⟨_, hS.ext, (hS.pick [] rfl).rows, News.of (hS.pick [] rfl).rows rfl, ⟨(decide (r71 = (2 : Int))), rfl, rfl, hv⟩⟩
    have hv := hv.1 g63
    refine WL.pass rfl rfl rfl <| WL.pass rfl rfl rfl <| WL.pass rfl rfl rfl <| WL.pass rfl rfl rfl <| WL.pass rfl rfl rfl <| WL.pass rfl rfl rfl <| WL.pick rfl rfl rfl <| WL.done <| W.condT rfl <| W.seq <| W.region <| WL.assign rfl rfl <| WL.done <| W.ret <| ⟨_, rfl, Fin.nil ?_⟩
    exact ⟨_, hS.ext, (hS.pick [] rfl).rows, News.of (hS.pick [] rfl).rows rfl, ⟨false, rfl, rfl, hv⟩⟩
end Go.Proofs.Ytcmfjjbbcfddpaa
set_option linter.unusedVariables false
set_option linter.unusedSimpArgs false
namespace Go.Proofs.Ytcmfjjbbcfddpaa
section
variable {P M : Int} {mf : List Int}
theorem law_WordCleans {l : List Int} (hl : l.length ≤ LB) : V_LCleans P M mf l (fun b => b = true) := by
  refine w_open (fun _ => rfl) fun F p m v g K hF => ?_
  have hq2 := hF.ring.q2
  refine ⟨_, v_Clean K hl rfl, _, v_rClean hF hl rfl, _, v_rwSame (by rw [cl_len]; exact LB62 hl) rfl, ?_⟩
  rw [decide_eq_true rfl]
  refine ⟨fun h => absurd h (by decide), fun _ => v_Support K hl (v_rSupport hF hl (v_rwSame ?_ ?_))⟩
  · rw [spt_len]; exact Nat.le_trans (cnp_le _ _) (LB62 hl)
  rw [decide_eq_true rfl]
  refine ⟨fun h => absurd h (by decide), fun _ => v_Weight K hl ⟨fun h => absurd (by rw [spt_len]) h, fun _ => v_Weight K (by simp [LB]) ?_⟩⟩
  have e : cnp (nzf (p ^ m) [1, 0, -1, 1]) 4 = 2 := by
    have a0 : nzf (p ^ m) [1, 0, -1, 1] 0 = true := decide_eq_true (by show inE (p ^ m) 1 ≠ 0; rw [inE_1 hq2]; decide)
    have a1 : nzf (p ^ m) [1, 0, -1, 1] 1 = false := decide_eq_false (by show ¬ inE (p ^ m) 0 ≠ 0; rw [inE_0 hq2]; decide)
    have a2 : nzf (p ^ m) [1, 0, -1, 1] 2 = false := decide_eq_false (by show ¬ inE (p ^ m) (-1) ≠ 0; rw [inE_not (by omega)]; decide)
    have a3 : nzf (p ^ m) [1, 0, -1, 1] 3 = true := decide_eq_true (by show inE (p ^ m) 1 ≠ 0; rw [inE_1 hq2]; decide)
    rw [cnp_succ, cnp_succ, cnp_succ, cnp_succ, a0, a1, a2, a3]; rfl
  show decide (((cnp (nzf (p ^ m) [1, 0, -1, 1]) 4 : Nat) : Int) = 2) = true
  rw [e]; rfl
end
end Go.Proofs.Ytcmfjjbbcfddpaa
