/- Contracts of functions of the program, and what they lean on: D7, D8. -/
import Derived.Test.YtmdigamgojfjdaaPolyMonicG8
set_option linter.unusedSimpArgs false
set_option linter.unusedVariables false
namespace Go.Proofs.Ytmdigamgojfjdaa
open Go.RowKit
def V_coef (Fg : GFv) (p : List Int) (i : Int) (Q : Int → Prop) : Prop :=
  ((i < ((p.length : Nat) : Int)) → ((0 ≤ i ∧ i < (p.length : Nat)) ∧ (V_Is Fg (gi p i) (fun r14 => ((r14 = true) → ((0 ≤ i ∧ i < (p.length : Nat)) ∧ (Q (gi p i)))) ∧ (r14 = false → (Q (0 : Int))))))) ∧ (¬ (i < ((p.length : Nat) : Int)) → (Q (0 : Int)))
theorem ok_coef {w : World} {Q : Int → Prop} {Fg : GFv} {p : List Int} {i : Int} {ag : Addr} {Bg : Nat} (hgg : GFR Bg w ag Fg) {Bp : Nat} {Ap : Option Addr} {np kp : Nat} (hp : Rd Bp w 1 Ap np kp (is p)) (hv : V_coef Fg p i Q) :
    Calls Try.prog 64 #[.pointer (some ag), .slice Ap np kp, .int .i64 i] w fun e w' => ∃ v Qr, e = .returned v ∧ w.grownBy w' none ∧ Rows w.heap.size none w' Qr ∧ News w.heap.size Qr ∧ ∃ (r0 : Int), v = .int .i64 r0 ∧ Qr = [] ∧ Q r0 := by
  have hgg_ := hgg
  obtain ⟨Ag_mod, kg_mod, Ag_exp, kg_exp, Ag_log, kg_log, Ag_above, kg_above, hg_c, hg_mod, hg_exp, hg_log, hg_above⟩ := hgg_
  have hnp := hp.ilen
  subst hnp
  refine calls_swap ?_
  refine calls_of_W (vs := [.pointer (some ag), .slice Ap p.length kp, .int .i64 i]) [6] Try.func64 rfl rfl rfl rfl ?_
  have hS := St.start w
  unfold V_coef at hv
  refine W.seq ?_
  refine W.region ?_
  refine WL.assign rfl rfl ?_
  refine WL.done ?_
  refine W.seq ?_
  refine W.seq ?_
  refine W.region ?_
  refine WL.move rfl rfl ?_
  refine WL.move rfl rfl ?_
  refine WL.len Try.underlying22 rfl rfl ?_
  refine WL.lssD rfl rfl rfl ?_
  refine WL.move rfl rfl ?_
  by_cases g11 : i < ((p.length : Nat) : Int)
  · have hv := hv.1 g11
    rw [decide_eq_true g11]
    refine WL.take rfl ?_
    refine WL.move rfl rfl ?_
    refine WL.take rfl ?_
    refine WL.move rfl rfl ?_
    refine WL.take rfl ?_
    refine WL.move rfl rfl ?_
    refine WL.take rfl ?_
    obtain ⟨o12, hv⟩ := hv
    refine SL.index Try.underlying22 Try.el3 (hS.ro hp) rfl rfl o12 rfl ?_
    refine WL.take rfl ?_
    refine WL.load Try.underlying3 rfl rfl (Rd.gi (hS.ro hp) o12) rfl ?_
    refine WL.take rfl ?_
    refine SL.call hS (ok_Is (GFR.ext (GFR.norm hgg) hS.ext) hv) Try.func96 rfl Try.nm96 rfl rfl ?_
    rintro _ _ w13 ⟨r14, rfl, rfl, hv⟩ hGw13 hS
    change St _ _ _ _ [] at hS
    refine WL.pick rfl rfl rfl ?_
    refine WL.done ?_
    refine W.cond2 rfl (fun c15 => ?_) (fun c15 => ?_)
    · have hv := hv.1 (c15)
      refine W.seq ?_
      refine W.region ?_
      refine WL.move rfl rfl ?_
      refine WL.move rfl rfl ?_
      obtain ⟨o16, hv⟩ := hv
      refine SL.index Try.underlying22 Try.el3 (hS.ro hp) rfl rfl o16 rfl ?_
      refine WL.load Try.underlying3 rfl rfl (Rd.gi (hS.ro hp) o16) rfl ?_
      refine WL.assign rfl rfl ?_
      refine WL.done ?_
      refine W.ret ?_
      refine ⟨_, rfl, Fin.nil ?_⟩
      exact ⟨_, hS.ext, (hS.pick [] rfl).rows, News.of (hS.pick [] rfl).rows rfl, ⟨(gi p i), rfl, rfl, hv⟩⟩
    · have hv := hv.2 (c15)
      refine W.skip ?_
      refine W.seq ?_
      refine W.region ?_
      refine WL.assign rfl rfl ?_
      refine WL.done ?_
      refine W.ret ?_
      refine ⟨_, rfl, Fin.nil ?_⟩
      exact ⟨_, hS.ext, (hS.pick [] rfl).rows, News.of (hS.pick [] rfl).rows rfl, ⟨(0 : Int), rfl, rfl, hv⟩⟩
  · have hv := hv.2 g11
    rw [decide_eq_false g11]
    refine WL.pass rfl rfl rfl ?_
    refine WL.pass rfl rfl rfl ?_
    refine WL.pass rfl rfl rfl ?_
    refine WL.pass rfl rfl rfl ?_
    refine WL.pass rfl rfl rfl ?_
    refine WL.pass rfl rfl rfl ?_
    refine WL.pick rfl rfl rfl ?_
    refine WL.done ?_
    refine W.condF rfl ?_
    refine W.skip ?_
    refine W.seq ?_
    refine W.region ?_
    refine WL.assign rfl rfl ?_
    refine WL.done ?_
    refine W.ret ?_
    refine ⟨_, rfl, Fin.nil ?_⟩
    exact ⟨_, hS.ext, (hS.pick [] rfl).rows, News.of (hS.pick [] rfl).rows rfl, ⟨(0 : Int), rfl, rfl, hv⟩⟩

def V_deg (Fg : GFv) (p : List Int) (Q : Int → Prop) : Prop :=
  V_backward p (fun _ => ∃ (I23 : Nat → Int → Prop) (J24 : Int → Prop), I23 0 (0 : Int) ∧ (∀ i19 : Nat, i19 < p.length → ∀ (z22 : Int), I23 i19 z22 → (V_coef Fg p ((p.length - 1 - i19 : Nat) : Int) (fun r27 => ((r27 ≠ (0 : Int)) → (J24 ((p.length - 1 - i19 : Nat) : Int))) ∧ (¬ (r27 ≠ (0 : Int)) → (I23 (i19 + 1) z22))))) ∧ (∀ (z22 : Int), I23 p.length z22 → (Q (-1 : Int))) ∧ (∀ (z22 : Int), J24 z22 → Q z22))
theorem ok_deg {w : World} {Q : Int → Prop} {Fg : GFv} {p : List Int} {ag : Addr} {Bg : Nat} (hgg : GFR Bg w ag Fg) {Bp : Nat} {Ap : Option Addr} {np kp : Nat} (hp : Rd Bp w 1 Ap np kp (is p)) (hv : V_deg Fg p Q) :
    Calls Try.prog 25 #[.pointer (some ag), .slice Ap np kp] w fun e w' => ∃ v Qr, e = .returned v ∧ w.grownBy w' none ∧ Rows w.heap.size none w' Qr ∧ News w.heap.size Qr ∧ ∃ (r0 : Int), v = .int .i64 r0 ∧ Qr = [] ∧ Q r0 := by
  have hgg_ := hgg
  obtain ⟨Ag_mod, kg_mod, Ag_exp, kg_exp, Ag_log, kg_log, Ag_above, kg_above, hg_c, hg_mod, hg_exp, hg_log, hg_above⟩ := hgg_
  have hnp := hp.ilen
  subst hnp
  refine calls_swap ?_
  refine calls_of_Wc (vs := [.pointer (some ag), .slice Ap p.length kp]) [.cell 4 3] Try.func25 rfl rfl rfl rfl ?_
  have hS := St.start w
  unfold V_deg at hv
  refine W.seq ?_
  refine W.region ?_
  refine SL.box (z := 1) (cs := [.pointer (some ag)]) hS rfl rfl rfl rfl ?_
  intro g11 w12 hS
  refine SL.box (z := 1) (cs := [.slice Ap p.length kp]) hS rfl rfl rfl rfl ?_
  intro g13 w14 hS
  refine SL.alloc (cs := [.int .i64 (0 : Int)]) hS Try.el3 rfl rfl ?_
  intro g15 w16 hS
  refine WL.done ?_
  refine W.seq ?_
  refine W.seq ?_
  refine W.region ?_
  refine WL.load Try.underlying22 rfl rfl (Own.vcells (hS.own (i := 1) rfl) 0 _ rfl) rfl ?_
  refine SL.call hS (ok_backward (hS.ro hp) hv) Try.func65 rfl Try.nm65 rfl rfl ?_
  rintro _ _ w17 ⟨g18, rfl, rfl, hv⟩ hGw17 hS
  change St _ _ _ _ [.row 22 1 (some ⟨g18, 0, none⟩) 1 1 [.slice Ap p.length kp], .row 3 1 (some ⟨g15, 0, none⟩) 1 1 [.int .i64 (0 : Int)], .row 22 1 (some ⟨g13, 0, none⟩) 1 1 [.slice Ap p.length kp], .row 26 1 (some ⟨g11, 0, none⟩) 1 1 [.pointer (some ag)]] at hS
  refine WL.done ?_
  refine W.block ?_
  obtain ⟨I23, J24, hv, hk34, hd35, hx36⟩ := hv
  change St _ _ _ _ [.row 22 1 (some ⟨g18, 0, none⟩) 1 1 [.slice Ap p.length kp], .row 3 1 (some ⟨g15, 0, none⟩) 1 1 [.int .i64 (0 : Int)], .row 22 1 (some ⟨g13, 0, none⟩) 1 1 [.slice Ap p.length kp], .row 26 1 (some ⟨g11, 0, none⟩) 1 1 [.pointer (some ag)]] at hS
  refine SR.range (σ := Int) (fun i q => match q with | z22 => I23 i z22) (fun z22 => [.row 22 1 (some ⟨g18, 0, none⟩) 1 1 [.slice Ap p.length kp], .row 3 1 (some ⟨g15, 0, none⟩) 1 1 [.int .i64 z22], .row 22 1 (some ⟨g13, 0, none⟩) 1 1 [.slice Ap p.length kp], .row 26 1 (some ⟨g11, 0, none⟩) 1 1 [.pointer (some ag)]]) (fun e q => match e, q with | .ret, z22 => J24 z22 | _, _ => False) (fun vs => [(2, .pointer (some ⟨g11, 0, none⟩)), (3, .pointer (some ⟨g13, 0, none⟩)), (4, .pointer (some ⟨g15, 0, none⟩)), (5, vs.getD 0 undef)]) (0 : Int) hS hv (fun q => by obtain z22 := q; exact trivial) rfl Try.func97 rfl Try.nm97 (backward_seq (A := Ap) (m := p.length) (c := kp) (Rd.m64 (hS.ro hp))) (Below.refl _ _) (fun _ _ _ h => by obtain ⟨_, h, _⟩ := h; rw [h]; rfl) (fun i x => bw_stay) (by decide) (fun _ q _ _ hS => by obtain z22 := q; exact ⟨Own.vcells (hS.own (i := 0) rfl) 0 _ rfl, _, _, (hS.ro hp)⟩) ?_ ?_ ?_ ?_
  · intro lq vsq W1q hlq
    match vsq, hlq with
    | [a0, a1], _ =>
      refine W.region ?_
      refine WL.assign rfl rfl ?_
      refine WL.done ?_
      exact ⟨rfl, rfl, ⟨rfl, rfl, rfl, rfl, trivial⟩⟩
  · rintro lq i19 _ z22 w25 hi ⟨vb, rfl, hcell⟩ hI hS
    have hvb : vb = (gi p ((p.length - 1 - i19 : Nat) : Int)) := bw_val (hS.ro hp) (by omega) hcell
    subst hvb
    have hv := hk34 i19 hi z22 hI
    refine W.block ?_
    refine W.seq ?_
    refine W.region ?_
    refine WL.load Try.underlying26 rfl rfl (Own.vcells (hS.own (i := 3) rfl) 0 _ rfl) rfl ?_
    refine WL.load Try.underlying22 rfl rfl (Own.vcells (hS.own (i := 2) rfl) 0 _ rfl) rfl ?_
    refine WL.move rfl rfl ?_
    refine SL.call hS (ok_coef (GFR.ext (GFR.norm hgg) hS.ext) (hS.ro hp) hv) Try.func64 rfl Try.nm64 rfl rfl ?_
    rintro _ _ w26 ⟨r27, rfl, rfl, hv⟩ hGw26 hS
    change St _ _ _ _ [.row 22 1 (some ⟨g18, 0, none⟩) 1 1 [.slice Ap p.length kp], .row 3 1 (some ⟨g15, 0, none⟩) 1 1 [.int .i64 z22], .row 22 1 (some ⟨g13, 0, none⟩) 1 1 [.slice Ap p.length kp], .row 26 1 (some ⟨g11, 0, none⟩) 1 1 [.pointer (some ag)]] at hS
    refine WL.neqD rfl rfl rfl ?_
    refine WL.done ?_
    refine W.cond2 rfl (fun c28 => ?_) (fun c28 => ?_)
    · have hv := hv.1 (of_decide_eq_true c28)
      refine W.seq ?_
      refine W.region ?_
      refine WL.move rfl rfl ?_
      refine SL.store (cs' := [.int .i64 ((p.length - 1 - i19 : Nat) : Int)]) 1 0 hS rfl Try.el3 rfl rfl rfl (of_ble rfl) rfl ?_
      intro w29 hS
      refine WL.done ?_
      refine W.ret ?_
      change St _ _ _ _ [.row 22 1 (some ⟨g18, 0, none⟩) 1 1 [.slice Ap p.length kp], .row 3 1 (some ⟨g15, 0, none⟩) 1 1 [.int .i64 ((p.length - 1 - i19 : Nat) : Int)], .row 22 1 (some ⟨g13, 0, none⟩) 1 1 [.slice Ap p.length kp], .row 26 1 (some ⟨g11, 0, none⟩) 1 1 [.pointer (some ag)]] at hS
      exact ⟨((p.length - 1 - i19 : Nat) : Int), rfl, hv, hS⟩
    · have hv := hv.2 (of_decide_eq_false c28)
      refine W.skip ?_
      change St _ _ _ _ [.row 22 1 (some ⟨g18, 0, none⟩) 1 1 [.slice Ap p.length kp], .row 3 1 (some ⟨g15, 0, none⟩) 1 1 [.int .i64 z22], .row 22 1 (some ⟨g13, 0, none⟩) 1 1 [.slice Ap p.length kp], .row 26 1 (some ⟨g11, 0, none⟩) 1 1 [.pointer (some ag)]] at hS
      exact ⟨z22, hv, hS⟩
  · rintro D30 z22 w31 hv hD hS
    have hv := hd35 z22 hv
    refine W.seq ?_
    refine W.region ?_
    refine SL.store (cs' := [.int .i64 (-1 : Int)]) 2 0 hS rfl Try.el3 rfl rfl rfl (of_ble rfl) rfl ?_
    intro w32 hS
    refine WL.done ?_
    refine W.ret ?_
    have hS := hS.pick [0, 2] rfl
    obtain ⟨hDD30, hS⟩ := hS.taken trivial
    repeat with_reducible first | refine blk.ret ?_ | refine exits.retI ?_
    refine endC.mk1 hDD30 ⟨[.int .i64 (-1 : Int)], ⟨_, _, _, rfl, rfl, run_load1 Try.underlying3 rfl (Own.vcells (hS.own (i := 0) rfl) 0 _ rfl), rfl⟩, ?_⟩
    exact ⟨_, hS.ext, (hS.pick [] rfl).rows, News.of (hS.pick [] rfl).rows rfl, ⟨(-1 : Int), rfl, rfl, hv⟩⟩
  · rintro D30 e z22 w31 he hv hD hS
    cases e with
    | ret =>
      have hv := hx36 z22 hv
      have hS := hS.pick [0, 2] rfl
      obtain ⟨hDD30, hS⟩ := hS.taken trivial
      repeat with_reducible first | refine blk.ret ?_ | refine exits.retI ?_
      refine endC.mk1 hDD30 ⟨[.int .i64 z22], ⟨_, _, _, rfl, rfl, run_load1 Try.underlying3 rfl (Own.vcells (hS.own (i := 0) rfl) 0 _ rfl), rfl⟩, ?_⟩
      exact ⟨_, hS.ext, (hS.pick [] rfl).rows, News.of (hS.pick [] rfl).rows rfl, ⟨z22, rfl, rfl, hv⟩⟩
    | exit id => exact hv.elim
    | _ => simp [plainExit] at he

def V_canon (Fg : GFv) (p : List Int) (Q : List Int → Prop) : Prop :=
  V_deg Fg p (fun r12 => (I64 (r12 + (1 : Int))) ∧ ((0 ≤ (r12 + (1 : Int)) ∧ (r12 + (1 : Int)) * 8 ≤ 281474976710656 ∧ (r12 + (1 : Int)) ≤ 281474976710656) ∧ (∃ (I24 : List Int → Int → Prop) (μ25 : List Int → Int → Nat), I24 (List.replicate (r12 + (1 : Int)).toNat (0 : Int)) (0 : Int) ∧ ∀ (x22 : List Int) (z23 : Int), (I24 x22 z23 → (((z23 < (((r12 + (1 : Int)).toNat : Nat) : Int)) → (V_coef Fg p z23 (fun r29 => (0 ≤ z23 ∧ z23 < ((r12 + (1 : Int)).toNat : Nat)) ∧ ((I64 (z23 + (1 : Int))) ∧ (I24 (si x22 z23 r29) (z23 + (1 : Int)) ∧ μ25 (si x22 z23 r29) (z23 + (1 : Int)) < μ25 x22 z23))))) ∧ (¬ (z23 < (((r12 + (1 : Int)).toNat : Nat) : Int)) → Q x22))))))
theorem ok_canon {w : World} {Q : List Int → Prop} {Fg : GFv} {p : List Int} {ag : Addr} {Bg : Nat} (hgg : GFR Bg w ag Fg) {Bp : Nat} {Ap : Option Addr} {np kp : Nat} (hp : Rd Bp w 1 Ap np kp (is p)) (hv : V_canon Fg p Q) :
    Calls Try.prog 22 #[.pointer (some ag), .slice Ap np kp] w fun e w' => ∃ v Qr, e = .returned v ∧ w.grownBy w' none ∧ Rows w.heap.size none w' Qr ∧ News w.heap.size Qr ∧ ∃ (r0 : List Int) (Ar0 : Option Addr) (cr0 : Nat), v = .slice Ar0 r0.length cr0 ∧ Qr = [.row 3 1 Ar0 r0.length cr0 (is r0)] ∧ Q r0 := by
  have hgg_ := hgg
  obtain ⟨Ag_mod, kg_mod, Ag_exp, kg_exp, Ag_log, kg_log, Ag_above, kg_above, hg_c, hg_mod, hg_exp, hg_log, hg_above⟩ := hgg_
  have hnp := hp.ilen
  subst hnp
  refine calls_swap ?_
  refine calls_of_W (vs := [.pointer (some ag), .slice Ap p.length kp]) [4] Try.func22 rfl rfl rfl rfl ?_
  have hS := St.start w
  unfold V_canon at hv
  refine W.seq ?_
  refine W.region ?_
  refine WL.assign rfl rfl ?_
  refine WL.done ?_
  refine W.seq ?_
  refine W.region ?_
  refine WL.move rfl rfl ?_
  refine WL.move rfl rfl ?_
  refine SL.call hS (ok_deg (GFR.ext (GFR.norm hgg) hS.ext) (hS.ro hp) hv) Try.func25 rfl Try.nm25 rfl rfl ?_
  rintro _ _ w11 ⟨r12, rfl, rfl, hv⟩ hGw11 hS
  change St _ _ _ _ [] at hS
  obtain ⟨o13, hv⟩ := hv
  refine WL.add (r := (r12 + (1 : Int))) rfl rfl (wr o13) rfl ?_
  obtain ⟨o14, hv⟩ := hv
  refine SL.make (J := (r12 + (1 : Int))) hS Try.underlying22 Try.el3 rfl rfl o14 (made_is _) rfl ?_
  intro A15 w16 hS
  refine WL.assign rfl rfl ?_
  refine WL.done ?_
  refine W.seq ?_
  refine W.seq ?_
  refine W.region ?_
  refine WL.move rfl rfl ?_
  refine WL.len Try.underlying22 rfl rfl ?_
  refine WL.move rfl rfl ?_
  refine WL.done ?_
  refine W.block ?_
  obtain ⟨I24, μ25, hv, hk33⟩ := hv
  change St _ _ _ _ [.row 3 1 A15 ((r12 + (1 : Int)).toNat) ((r12 + (1 : Int)).toNat) (is (List.replicate (r12 + (1 : Int)).toNat (0 : Int)))] at hS
  refine W.loop (σ := List Int × Int) (fun q w1 => match q with | (x22, z23) => I24 x22 z23 ∧ St TT w none w1 [.row 3 1 A15 ((r12 + (1 : Int)).toNat) ((r12 + (1 : Int)).toNat) (is x22)]) (fun q => match q with | (x22, z23) => [(0, .pointer (some ag)), (1, .slice Ap p.length kp), (4, .slice none 0 0), (5, .slice A15 ((r12 + (1 : Int)).toNat) ((r12 + (1 : Int)).toNat)), (13, .int .i64 (((r12 + (1 : Int)).toNat : Nat) : Int)), (14, .int .i64 z23)]) (fun q => match q with | (x22, z23) => μ25 x22 z23) (List.replicate (r12 + (1 : Int)).toNat (0 : Int), (0 : Int)) ⟨hv, hS⟩ ⟨rfl, rfl, rfl, rfl, rfl, rfl, trivial⟩ ?_
  rintro ⟨x22, z23⟩ w26 ⟨hv, hS⟩
  have hv := hk33 x22 z23 hv
  refine W.seq ?_
  refine W.region ?_
  refine WL.lssD rfl rfl rfl ?_
  refine WL.done ?_
  refine W.seq ?_
  refine W.cond2 rfl (fun c27 => ?_) (fun c27 => ?_)
  · have hv := hv.1 (of_decide_eq_true c27)
    refine W.skip ?_
    refine W.seq ?_
    refine W.block ?_
    refine W.seq ?_
    refine W.region ?_
    refine WL.move rfl rfl ?_
    refine WL.assign rfl rfl ?_
    refine WL.done ?_
    refine W.region ?_
    refine WL.move rfl rfl ?_
    refine WL.move rfl rfl ?_
    refine WL.move rfl rfl ?_
    refine WL.move rfl rfl ?_
    refine WL.move rfl rfl ?_
    refine SL.call hS (ok_coef (GFR.ext (GFR.norm hgg) hS.ext) (hS.ro hp) hv) Try.func64 rfl Try.nm64 rfl rfl ?_
    rintro _ _ w28 ⟨r29, rfl, rfl, hv⟩ hGw28 hS
    change St _ _ _ _ [.row 3 1 A15 ((r12 + (1 : Int)).toNat) ((r12 + (1 : Int)).toNat) (is x22)] at hS
    obtain ⟨o30, hv⟩ := hv
    refine SL.index Try.underlying22 Try.el3 (hS.rd (i := 0) rfl) rfl rfl o30 rfl ?_
    refine SL.store (cs' := is (si x22 z23 r29)) 0 z23.toNat hS rfl Try.el3 rfl rfl rfl (is_lt (hS.rd (i := 0) rfl) o30) (is_set _ _ _) ?_
    intro w31 hS
    refine WL.done ?_
    refine W.region ?_
    obtain ⟨o32, hv⟩ := hv
    refine WL.add (r := (z23 + (1 : Int))) rfl rfl (wr o32) rfl ?_
    refine WL.move rfl rfl ?_
    refine WL.done ?_
    change St _ _ _ _ [.row 3 1 A15 ((r12 + (1 : Int)).toNat) ((r12 + (1 : Int)).toNat) (is (si x22 z23 r29))] at hS
    exact ⟨(si x22 z23 r29, (z23 + (1 : Int))), ⟨rfl, rfl, rfl, rfl, rfl, rfl, trivial⟩, hv.2, rfl, hv.1, hS⟩
  · have hv := hv.2 (of_decide_eq_false c27)
    refine W.exit ?_
    refine W.seq ?_
    refine W.region ?_
    refine WL.move rfl rfl ?_
    refine WL.assign rfl rfl ?_
    refine WL.done ?_
    refine W.ret ?_
    have hm0 := (hS.rd (i := 0) rfl).ilen
    have hS := hS.relen (i := 0) rfl hm0.symm
    refine ⟨_, rfl, Fin.nil ?_⟩
    exact ⟨_, hS.ext, (hS.pick [0] rfl).rows, News.of (hS.pick [0] rfl).rows rfl, ⟨x22, A15, (r12 + (1 : Int)).toNat, (by first | (rw [hm0]; done) | (rw [hm0]; rfl)), rfl, hv⟩⟩

def V_trim (Fg : GFv) (p : List Int) (Q : Int → Prop) : Prop :=
  V_deg Fg p (fun r12 => (I64 (r12 + (1 : Int))) ∧ ((0 ≤ (r12 + (1 : Int)) ∧ (r12 + (1 : Int)) ≤ (p.length : Nat)) ∧ (Q (r12 + (1 : Int)))))
theorem ok_trim {w : World} {Q : Int → Prop} {Fg : GFv} {p : List Int} {ag : Addr} {Bg : Nat} (hgg : GFR Bg w ag Fg) {Bp : Nat} {Ap : Option Addr} {np kp : Nat} (hp : Rd Bp w 1 Ap np kp (is p)) (hv : V_trim Fg p Q) :
    Calls Try.prog 71 #[.pointer (some ag), .slice Ap np kp] w fun e w' => ∃ v Qr, e = .returned v ∧ w.grownBy w' none ∧ Rows w.heap.size none w' Qr ∧ News w.heap.size Qr ∧ ∃ (j : Int), v = .slice Ap j.toNat kp ∧ Qr = [] ∧ Q j := by
  have hgg_ := hgg
  obtain ⟨Ag_mod, kg_mod, Ag_exp, kg_exp, Ag_log, kg_log, Ag_above, kg_above, hg_c, hg_mod, hg_exp, hg_log, hg_above⟩ := hgg_
  have hnp := hp.ilen
  subst hnp
  refine calls_swap ?_
  refine calls_of_W (vs := [.pointer (some ag), .slice Ap p.length kp]) [4] Try.func71 rfl rfl rfl rfl ?_
  have hS := St.start w
  unfold V_trim at hv
  refine W.seq ?_
  refine W.region ?_
  refine WL.assign rfl rfl ?_
  refine WL.done ?_
  refine W.seq ?_
  refine W.region ?_
  refine WL.move rfl rfl ?_
  refine WL.move rfl rfl ?_
  refine WL.move rfl rfl ?_
  refine SL.call hS (ok_deg (GFR.ext (GFR.norm hgg) hS.ext) (hS.ro hp) hv) Try.func25 rfl Try.nm25 rfl rfl ?_
  rintro _ _ w11 ⟨r12, rfl, rfl, hv⟩ hGw11 hS
  change St _ _ _ _ [] at hS
  obtain ⟨o13, hv⟩ := hv
  refine WL.add (r := (r12 + (1 : Int))) rfl rfl (wr o13) rfl ?_
  obtain ⟨o14, hv⟩ := hv
  refine SL.slTo Try.underlying22 Try.el3 (hS.ro hp) rfl rfl o14 rfl (p.take (r12 + (1 : Int)).toNat).length (pre_len (hS.ro hp) o14) ?_
  refine WL.assign rfl rfl ?_
  refine WL.done ?_
  refine W.ret ?_
  refine ⟨_, rfl, Fin.nil ?_⟩
  exact ⟨_, hS.ext, (hS.pick [] rfl).rows, News.of (hS.pick [] rfl).rows rfl, ⟨(r12 + (1 : Int)), sm0 (pre_len (hS.ro hp) o14).symm, rfl, hv⟩⟩

def V_join (Fg : GFv) (p : List Int) (t : List Int) (op : Int → Int → (Int → Prop) → Prop) (Q : List Int → Prop) : Prop :=
  (0 ≤ (max ((p.length : Nat) : Int) ((t.length : Nat) : Int)) ∧ (max ((p.length : Nat) : Int) ((t.length : Nat) : Int)) * 8 ≤ 281474976710656 ∧ (max ((p.length : Nat) : Int) ((t.length : Nat) : Int)) ≤ 281474976710656) ∧ (∃ (I21 : List Int → Int → Prop) (μ22 : List Int → Int → Nat), I21 (List.replicate (max ((p.length : Nat) : Int) ((t.length : Nat) : Int)).toNat (0 : Int)) (0 : Int) ∧ ∀ (x19 : List Int) (z20 : Int), (I21 x19 z20 → (((z20 < (((max ((p.length : Nat) : Int) ((t.length : Nat) : Int)).toNat : Nat) : Int)) → (V_coef Fg p z20 (fun r26 => V_coef Fg t z20 (fun r28 => op r26 r28 (fun z30 => (0 ≤ z20 ∧ z20 < ((max ((p.length : Nat) : Int) ((t.length : Nat) : Int)).toNat : Nat)) ∧ ((I64 (z20 + (1 : Int))) ∧ (I21 (si x19 z20 z30) (z20 + (1 : Int)) ∧ μ22 (si x19 z20 z30) (z20 + (1 : Int)) < μ22 x19 z20))))))) ∧ (¬ (z20 < (((max ((p.length : Nat) : Int) ((t.length : Nat) : Int)).toNat : Nat) : Int)) → (V_trim Fg x19 (fun j35 => (0 ≤ j35 ∧ j35 ≤ ((max ((p.length : Nat) : Int) ((t.length : Nat) : Int)).toNat : Nat)) ∧ (Q (x19.take j35.toNat))))))))
theorem ok_join {w : World} {Q : List Int → Prop} {Fg : GFv} {p : List Int} {t : List Int} {op : Int → Int → (Int → Prop) → Prop} {ag : Addr} {Bg : Nat} (hgg : GFR Bg w ag Fg) {Bp : Nat} {Ap : Option Addr} {np kp : Nat} (hp : Rd Bp w 1 Ap np kp (is p)) {Bt : Nat} {At : Option Addr} {nt kt : Nat} (ht : Rd Bt w 1 At nt kt (is t)) {cfop : Nat} {cgop : Func} {ccop : Code} {bsop csop : List Value} (hcfop : Try.prog.funcs[cfop]? = some cgop) (hcbop : cgop.body = some ccop) (hcnop : (cgop.name == "runtime.NumGoroutine") = false) (hclop : ∀ (wc : World) (xc yc : Int) (Qc : Int → Prop), w.grownBy wc none → op xc yc Qc → Calls Try.prog cfop (bsop ++ ([.int .i64 xc, .int .i64 yc] : List Value) ++ csop).toArray wc fun e w' => ∃ v Qr, e = .returned v ∧ wc.grownBy w' none ∧ Rows wc.heap.size none w' Qr ∧ News wc.heap.size Qr ∧ ∃ b : Int, v = .int .i64 b ∧ Qr = [] ∧ Qc b) (hv : V_join Fg p t op Q) :
    Calls Try.prog 66 #[.pointer (some ag), .slice Ap np kp, .slice At nt kt, .func (.func cfop) bsop.toArray csop.toArray] w fun e w' => ∃ v Qr, e = .returned v ∧ w.grownBy w' none ∧ Rows w.heap.size none w' Qr ∧ News w.heap.size Qr ∧ ∃ (r0 : List Int) (Ar0 : Option Addr) (cr0 : Nat), v = .slice Ar0 r0.length cr0 ∧ Qr = [.row 3 1 Ar0 r0.length cr0 (is r0)] ∧ Q r0 := by
  have hgg_ := hgg
  obtain ⟨Ag_mod, kg_mod, Ag_exp, kg_exp, Ag_log, kg_log, Ag_above, kg_above, hg_c, hg_mod, hg_exp, hg_log, hg_above⟩ := hgg_
  have hnp := hp.ilen
  subst hnp
  have hnt := ht.ilen
  subst hnt
  refine calls_swap ?_
  refine calls_of_W (vs := [.pointer (some ag), .slice Ap p.length kp, .slice At t.length kt, .func (.func cfop) bsop.toArray csop.toArray]) [8] Try.func66 rfl rfl rfl rfl ?_
  have hS := St.start w
  unfold V_join at hv
  refine W.seq ?_
  refine W.region ?_
  refine WL.assign rfl rfl ?_
  refine WL.done ?_
  refine W.seq ?_
  refine W.region ?_
  refine WL.move rfl rfl ?_
  refine WL.len Try.underlying22 rfl rfl ?_
  refine WL.move rfl rfl ?_
  refine WL.len Try.underlying22 rfl rfl ?_
  refine WL.max2 (r := (max ((p.length : Nat) : Int) ((t.length : Nat) : Int))) rfl rfl rfl rfl ?_
  obtain ⟨o11, hv⟩ := hv
  refine SL.make (J := (max ((p.length : Nat) : Int) ((t.length : Nat) : Int))) hS Try.underlying22 Try.el3 rfl rfl o11 (made_is _) rfl ?_
  intro A12 w13 hS
  refine WL.assign rfl rfl ?_
  refine WL.done ?_
  refine W.seq ?_
  refine W.seq ?_
  refine W.region ?_
  refine WL.move rfl rfl ?_
  refine WL.len Try.underlying22 rfl rfl ?_
  refine WL.move rfl rfl ?_
  refine WL.done ?_
  refine W.block ?_
  obtain ⟨I21, μ22, hv, hk37⟩ := hv
  change St _ _ _ _ [.row 3 1 A12 ((max ((p.length : Nat) : Int) ((t.length : Nat) : Int)).toNat) ((max ((p.length : Nat) : Int) ((t.length : Nat) : Int)).toNat) (is (List.replicate (max ((p.length : Nat) : Int) ((t.length : Nat) : Int)).toNat (0 : Int)))] at hS
  refine W.loop (σ := List Int × Int) (fun q w1 => match q with | (x19, z20) => I21 x19 z20 ∧ St TT w none w1 [.row 3 1 A12 ((max ((p.length : Nat) : Int) ((t.length : Nat) : Int)).toNat) ((max ((p.length : Nat) : Int) ((t.length : Nat) : Int)).toNat) (is x19)]) (fun q => match q with | (x19, z20) => [(0, .pointer (some ag)), (1, .slice Ap p.length kp), (2, .slice At t.length kt), (3, .func (.func cfop) bsop.toArray csop.toArray), (8, .slice none 0 0), (9, .slice A12 ((max ((p.length : Nat) : Int) ((t.length : Nat) : Int)).toNat) ((max ((p.length : Nat) : Int) ((t.length : Nat) : Int)).toNat)), (18, .int .i64 (((max ((p.length : Nat) : Int) ((t.length : Nat) : Int)).toNat : Nat) : Int)), (19, .int .i64 z20)]) (fun q => match q with | (x19, z20) => μ22 x19 z20) (List.replicate (max ((p.length : Nat) : Int) ((t.length : Nat) : Int)).toNat (0 : Int), (0 : Int)) ⟨hv, hS⟩ ⟨rfl, rfl, rfl, rfl, rfl, rfl, rfl, rfl, trivial⟩ ?_
  rintro ⟨x19, z20⟩ w23 ⟨hv, hS⟩
  have hv := hk37 x19 z20 hv
  refine W.seq ?_
  refine W.region ?_
  refine WL.lssD rfl rfl rfl ?_
  refine WL.done ?_
  refine W.seq ?_
  refine W.cond2 rfl (fun c24 => ?_) (fun c24 => ?_)
  · have hv := hv.1 (of_decide_eq_true c24)
    refine W.skip ?_
    refine W.seq ?_
    refine W.block ?_
    refine W.seq ?_
    refine W.region ?_
    refine WL.move rfl rfl ?_
    refine WL.assign rfl rfl ?_
    refine WL.done ?_
    refine W.region ?_
    refine WL.move rfl rfl ?_
    refine WL.move rfl rfl ?_
    refine WL.move rfl rfl ?_
    refine WL.move rfl rfl ?_
    refine WL.move rfl rfl ?_
    refine WL.move rfl rfl ?_
    refine SL.call hS (ok_coef (GFR.ext (GFR.norm hgg) hS.ext) (hS.ro hp) hv) Try.func64 rfl Try.nm64 rfl rfl ?_
    rintro _ _ w25 ⟨r26, rfl, rfl, hv⟩ hGw25 hS
    change St _ _ _ _ [.row 3 1 A12 ((max ((p.length : Nat) : Int) ((t.length : Nat) : Int)).toNat) ((max ((p.length : Nat) : Int) ((t.length : Nat) : Int)).toNat) (is x19)] at hS
    refine WL.move rfl rfl ?_
    refine WL.move rfl rfl ?_
    refine WL.move rfl rfl ?_
    refine SL.call hS (ok_coef (GFR.ext (GFR.norm hgg) hS.ext) (hS.ro ht) hv) Try.func64 rfl Try.nm64 rfl rfl ?_
    rintro _ _ w27 ⟨r28, rfl, rfl, hv⟩ hGw27 hS
    change St _ _ _ _ [.row 3 1 A12 ((max ((p.length : Nat) : Int) ((t.length : Nat) : Int)).toNat) ((max ((p.length : Nat) : Int) ((t.length : Nat) : Int)).toNat) (is x19)] at hS
    refine SL.callb (us := bsop) (vs := [.int .i64 r26, .int .i64 r28]) (cs := csop) hS (hclop _ _ _ _ hS.ext hv) rfl hcfop hcbop hcnop rfl rfl ?_
    rintro _ _ w29 ⟨z30, rfl, rfl, hv⟩ hGw29 hS
    change St _ _ _ _ [.row 3 1 A12 ((max ((p.length : Nat) : Int) ((t.length : Nat) : Int)).toNat) ((max ((p.length : Nat) : Int) ((t.length : Nat) : Int)).toNat) (is x19)] at hS
    obtain ⟨o31, hv⟩ := hv
    refine SL.index Try.underlying22 Try.el3 (hS.rd (i := 0) rfl) rfl rfl o31 rfl ?_
    refine SL.store (cs' := is (si x19 z20 z30)) 0 z20.toNat hS rfl Try.el3 rfl rfl rfl (is_lt (hS.rd (i := 0) rfl) o31) (is_set _ _ _) ?_
    intro w32 hS
    refine WL.done ?_
    refine W.region ?_
    obtain ⟨o33, hv⟩ := hv
    refine WL.add (r := (z20 + (1 : Int))) rfl rfl (wr o33) rfl ?_
    refine WL.move rfl rfl ?_
    refine WL.done ?_
    change St _ _ _ _ [.row 3 1 A12 ((max ((p.length : Nat) : Int) ((t.length : Nat) : Int)).toNat) ((max ((p.length : Nat) : Int) ((t.length : Nat) : Int)).toNat) (is (si x19 z20 z30))] at hS
    exact ⟨(si x19 z20 z30, (z20 + (1 : Int))), ⟨rfl, rfl, rfl, rfl, rfl, rfl, rfl, rfl, trivial⟩, hv.2, rfl, hv.1, hS⟩
  · have hv := hv.2 (of_decide_eq_false c24)
    refine W.exit ?_
    refine W.seq ?_
    refine W.region ?_
    refine WL.move rfl rfl ?_
    refine WL.move rfl rfl ?_
    refine SL.call hS (ok_trim (GFR.ext (GFR.norm hgg) hS.ext) (hS.rd (i := 0) rfl) hv) Try.func71 rfl Try.nm71 rfl rfl ?_
    rintro _ _ w34 ⟨j35, rfl, rfl, hv⟩ hGw34 hS
    change St _ _ _ _ [.row 3 1 A12 ((max ((p.length : Nat) : Int) ((t.length : Nat) : Int)).toNat) ((max ((p.length : Nat) : Int) ((t.length : Nat) : Int)).toNat) (is x19)] at hS
    obtain ⟨o36, hv⟩ := hv
    refine WL.assign rfl rfl ?_
    refine WL.done ?_
    refine W.ret ?_
    have hq0 := (hS.rd (i := 0) rfl).ilen
    have hS := hS.shrink (i := 0) (k := j35.toNat) rfl (by omega)
    have hl0 : (x19.take j35.toNat).length = j35.toNat := by rw [List.length_take]; omega
    refine ⟨_, rfl, Fin.nil ?_⟩
    exact ⟨_, hS.ext, (hS.pick [0] rfl).rows, News.of (hS.pick [0] rfl).rows rfl, ⟨x19.take j35.toNat, A12, (max ((p.length : Nat) : Int) ((t.length : Nat) : Int)).toNat, (by first | (rw [hl0]; done) | (rw [hl0]; rfl)), rfl, hv⟩⟩

def V_padd (Fg : GFv) (p : List Int) (t : List Int) (Q : List Int → Prop) : Prop :=
  V_join Fg p t (fun xc yc Qc => V_Add Fg xc yc Qc) (fun x12 => Q x12)
theorem ok_padd {w : World} {Q : List Int → Prop} {Fg : GFv} {p : List Int} {t : List Int} {ag : Addr} {Bg : Nat} (hgg : GFR Bg w ag Fg) {Bp : Nat} {Ap : Option Addr} {np kp : Nat} (hp : Rd Bp w 1 Ap np kp (is p)) {Bt : Nat} {At : Option Addr} {nt kt : Nat} (ht : Rd Bt w 1 At nt kt (is t)) (hv : V_padd Fg p t Q) :
    Calls Try.prog 27 #[.pointer (some ag), .slice Ap np kp, .slice At nt kt] w fun e w' => ∃ v Qr, e = .returned v ∧ w.grownBy w' none ∧ Rows w.heap.size none w' Qr ∧ News w.heap.size Qr ∧ ∃ (r0 : List Int) (Ar0 : Option Addr) (cr0 : Nat), v = .slice Ar0 r0.length cr0 ∧ Qr = [.row 3 1 Ar0 r0.length cr0 (is r0)] ∧ Q r0 := by
  have hgg_ := hgg
  obtain ⟨Ag_mod, kg_mod, Ag_exp, kg_exp, Ag_log, kg_log, Ag_above, kg_above, hg_c, hg_mod, hg_exp, hg_log, hg_above⟩ := hgg_
  have hnp := hp.ilen
  subst hnp
  have hnt := ht.ilen
  subst hnt
  refine calls_swap ?_
  refine calls_of_W (vs := [.pointer (some ag), .slice Ap p.length kp, .slice At t.length kt]) [6] Try.func27 rfl rfl rfl rfl ?_
  have hS := St.start w
  unfold V_padd at hv
  refine W.seq ?_
  refine W.region ?_
  refine WL.assign rfl rfl ?_
  refine WL.done ?_
  refine W.seq ?_
  refine W.region ?_
  refine WL.move rfl rfl ?_
  refine WL.move rfl rfl ?_
  refine WL.move rfl rfl ?_
  refine WL.move rfl rfl ?_
  refine WL.makeFuncB (us := [.pointer (some ag)]) (vs := []) rfl rfl rfl ?_
  refine SL.call hS (ok_join (GFR.ext (GFR.norm hgg) hS.ext) (hS.ro hp) (hS.ro ht) (bsop := [.pointer (some ag)]) (csop := []) Try.func67 rfl Try.nm67 (fun wc xc yc Qc hg hv => (show Calls Try.prog 67 #[.pointer (some ag), .int .i64 xc, .int .i64 yc] wc _ from ok_Add (GFR.ext (GFR.ext (GFR.norm hgg) hS.ext) hg) hv)) hv) Try.func66 rfl Try.nm66 rfl rfl ?_
  rintro _ _ w11 ⟨x12, A13, k14, rfl, rfl, hv⟩ hGw11 hS
  change St _ _ _ _ [.row 3 1 A13 x12.length k14 (is x12)] at hS
  refine WL.assign rfl rfl ?_
  refine WL.done ?_
  refine W.ret ?_
  refine ⟨_, rfl, Fin.nil ?_⟩
  exact ⟨_, hS.ext, (hS.pick [0] rfl).rows, News.of (hS.pick [0] rfl).rows rfl, ⟨x12, A13, k14, rfl, rfl, hv⟩⟩

def V_addMultiple (Fg : GFv) (s : List Int) (os : Nat) (a : Int) (p : List Int) (Q : List Int → Prop) : Prop :=
  ((a = (0 : Int)) → Q s) ∧ (¬ (a = (0 : Int)) → (∃ (I18 : List Int → Int → Prop) (μ19 : List Int → Int → Nat), I18 s (0 : Int) ∧ ∀ (x16 : List Int) (z17 : Int), (I18 x16 z17 → (((z17 < ((p.length : Nat) : Int)) → ((0 ≤ z17 ∧ z17 < (p.length : Nat)) ∧ ((0 ≤ z17 ∧ z17 < (s.length - os : Nat)) ∧ (∃ (r35 : Int), V_Mul Fg a (gi p z17) (fun q => q = r35) ∧ (∃ (r39 : Int), V_Add Fg (gi x16 ((os + z17.toNat : Nat) : Int)) r35 (fun q => q = r39) ∧ ((0 ≤ z17 ∧ z17 < (s.length - os : Nat)) ∧ ((I64 (z17 + (1 : Int))) ∧ (I18 (si x16 ((os + z17.toNat : Nat) : Int) r39) (z17 + (1 : Int)) ∧ μ19 (si x16 ((os + z17.toNat : Nat) : Int) r39) (z17 + (1 : Int)) < μ19 x16 z17)))))))) ∧ (¬ (z17 < ((p.length : Nat) : Int)) → Q x16)))))
theorem ok_addMultiple {w : World} {Q : List Int → Prop} {Fg : GFv} {s : List Int} {os : Nat} {a : Int} {p : List Int} {ag : Addr} {Bg : Nat} (hgg : GFR Bg w ag Fg) {As : Option Addr} {ns ks : Nat} (hs : Own 0 w 3 1 As ns ks (is s)) (hos : os ≤ ns) {Bp : Nat} {Ap : Option Addr} {np kp : Nat} (hp : Rd Bp w 1 Ap np kp (is p)) (hapg : ∀ g, bl As = some g → Bg ≤ g) (happ : 0 < np → ∀ g, bl As = some g → bl Ap ≠ some g) (hv : V_addMultiple Fg s os a p Q) :
    Calls Try.prog 75 #[.pointer (some ag), .slice (if ks = os then As else As.map (·.add (os * 1))) (ns - os) (ks - os), .int .i64 a, .slice Ap np kp] w fun e w' => ∃ v cs', e = .returned v ∧ w.grownBy w' (bl As) ∧ Own 0 w' 3 1 As ns ks cs' ∧ ∃ x : List Int, v = .tuple #[] ∧ cs' = is x ∧ Q x := by
  have hgg_ := hgg
  obtain ⟨Ag_mod, kg_mod, Ag_exp, kg_exp, Ag_log, kg_log, Ag_above, kg_above, hg_c, hg_mod, hg_exp, hg_log, hg_above⟩ := hgg_
  have hns := hs.rd.ilen
  subst hns
  have hnp := hp.ilen
  subst hnp
  refine calls_swapM ?_
  refine calls_of_W (vs := [.pointer (some ag), .slice (if ks = os then As else As.map (·.add (os * 1))) (s.length - os) (ks - os), .int .i64 a, .slice Ap p.length kp]) [] Try.func75 rfl rfl rfl rfl ?_
  have hS := St.startM hs
  unfold V_addMultiple at hv
  refine W.seq ?_
  refine W.seq ?_
  refine W.region ?_
  refine WL.move rfl rfl ?_
  refine WL.eqlD rfl rfl rfl ?_
  refine WL.done ?_
  refine W.cond2 rfl (fun c11 => ?_) (fun c11 => ?_)
  · have hv := hv.1 (of_decide_eq_true c11)
    refine W.ret ?_
    refine ⟨_, rfl, Fin.nil ?_⟩
    exact ⟨_, hS.ext, hS.own (i := 0) rfl, s, rfl, rfl, hv⟩
  · have hv := hv.2 (of_decide_eq_false c11)
    refine W.skip ?_
    refine W.seq ?_
    refine W.region ?_
    refine WL.move rfl rfl ?_
    refine WL.len Try.underlying22 rfl rfl ?_
    refine WL.move rfl rfl ?_
    refine WL.done ?_
    refine W.block ?_
    obtain ⟨I18, μ19, hv, hk46⟩ := hv
    change St _ _ _ _ [.row 3 1 As s.length ks (is s)] at hS
    refine W.loop (σ := List Int × Int) (fun q w1 => match q with | (x16, z17) => I18 x16 z17 ∧ St TT w (bl As) w1 [.row 3 1 As s.length ks (is x16)]) (fun q => match q with | (x16, z17) => [(0, .pointer (some ag)), (1, .slice (if ks = os then As else As.map (·.add (os * 1))) (s.length - os) (ks - os)), (2, .int .i64 a), (12, .slice Ap p.length kp), (13, .int .i64 ((p.length : Nat) : Int)), (14, .int .i64 z17)]) (fun q => match q with | (x16, z17) => μ19 x16 z17) (s, (0 : Int)) ⟨hv, hS⟩ ⟨rfl, rfl, rfl, rfl, rfl, rfl, trivial⟩ ?_
    rintro ⟨x16, z17⟩ w20 ⟨hv, hS⟩
    have hv := hk46 x16 z17 hv
    refine W.seq ?_
    refine W.region ?_
    refine WL.lssD rfl rfl rfl ?_
    refine WL.done ?_
    refine W.seq ?_
    refine W.cond2 rfl (fun c21 => ?_) (fun c21 => ?_)
    · have hv := hv.1 (of_decide_eq_true c21)
      refine W.skip ?_
      refine W.seq ?_
      refine W.block ?_
      refine W.seq ?_
      refine W.region ?_
      refine WL.move rfl rfl ?_
      obtain ⟨o22, hv⟩ := hv
      refine SL.index Try.underlying22 Try.el3 (hS.rom' hp happ) rfl rfl o22 rfl ?_
      refine WL.load Try.underlying3 rfl rfl (Rd.gi (hS.rom' hp happ) o22) rfl ?_
      refine WL.assign rfl rfl ?_
      refine WL.assign rfl rfl ?_
      refine WL.done ?_
      obtain ⟨o29, hv⟩ := hv
      obtain ⟨r35, o37, hv⟩ := hv
      obtain ⟨r39, o41, hv⟩ := hv
      have hS0 := hS
      refine W.drawX 12 (fun _ => false) (fun _ => none) [⟨[], [1], true⟩, ⟨[], [8], true⟩, ⟨[], [0], true⟩, ⟨[], [1], true⟩, ⟨[], [8], true⟩, ⟨[3, 4], [], true⟩, ⟨[5], [], false⟩, ⟨[], [0], true⟩, ⟨[], [2], true⟩, ⟨[], [9], true⟩, ⟨[7, 8, 9], [], false⟩, ⟨[2, 6, 10], [], false⟩] [[(1, .slice (if ks = os then As else As.map (·.add (os * 1))) (s.length - os) (ks - os))], [(8, .int .i64 z17)], [(0, .pointer (some ag))], [(1, .slice (if ks = os then As else As.map (·.add (os * 1))) (s.length - os) (ks - os))], [(8, .int .i64 z17)], [], [], [(0, .pointer (some ag))], [(2, .int .i64 a)], [(9, .int .i64 (gi p z17))], [], []] (fun iQ => [fun v _ => v = .slice (if ks = os then As else As.map (·.add (os * 1))) (s.length - os) (ks - os), fun v _ => v = .int .i64 z17, fun v _ => v = .pointer (some ag), fun v _ => v = .slice (if ks = os then As else As.map (·.add (os * 1))) (s.length - os) (ks - os), fun v _ => v = .int .i64 z17, fun v _ => v = .pointer (some ((adOf As).add (os + z17.toNat))), fun v _ => v = .int .i64 (gi x16 ((os + z17.toNat : Nat) : Int)), fun v _ => v = .pointer (some ag), fun v _ => v = .int .i64 a, fun v _ => v = .int .i64 (gi p z17), fun v _ => v = .int .i64 r35, fun v _ => v = .int .i64 r39].getD iQ (fun _ _ => True)) Try.mixed (by kernel_rfl) ?_ (by kernel_rfl) ?_ ?_
      · refine Vs_monoT _ ?_
        intro VQ hVQ vQ wQ1 wQ2 hQ1 hQ2
        simp only [List.mem_cons, List.not_mem_nil, or_false] at hVQ
        rcases hVQ with rfl | rfl | rfl | rfl | rfl | rfl | rfl | rfl | rfl | rfl | rfl | rfl
        · exact hQ1
        · exact hQ1
        · exact hQ1
        · exact hQ1
        · exact hQ1
        · exact hQ1
        · exact hQ1
        · exact hQ1
        · exact hQ1
        · exact hQ1
        · exact hQ1
        · exact hQ1
      · refine ⟨⟨rfl, ⟨rfl, trivial⟩, ?_⟩, ⟨rfl, ⟨rfl, trivial⟩, ?_⟩, ⟨rfl, ⟨rfl, trivial⟩, ?_⟩, ⟨rfl, ⟨rfl, trivial⟩, ?_⟩, ⟨rfl, ⟨rfl, trivial⟩, ?_⟩, ⟨rfl, trivial, ?_⟩, ⟨rfl, trivial, ?_⟩, ⟨rfl, ⟨rfl, trivial⟩, ?_⟩, ⟨rfl, ⟨rfl, trivial⟩, ?_⟩, ⟨rfl, ⟨rfl, trivial⟩, ?_⟩, ⟨rfl, trivial, ?_⟩, ⟨rfl, trivial, ?_⟩, trivial⟩
        · intro w23 hE
          intro RR
          refine WL.move rfl rfl ?_
          exact WL.done ⟨_, rfl, rfl, rfl, (fun h => absurd h (by decide)), (fun j h => by cases h)⟩
        · intro w24 hE
          intro RR
          refine WL.move rfl rfl ?_
          exact WL.done ⟨_, rfl, rfl, rfl, (fun h => absurd h (by decide)), (fun j h => by cases h)⟩
        · intro w25 hE
          intro RR
          refine WL.move rfl rfl ?_
          exact WL.done ⟨_, rfl, rfl, rfl, (fun h => absurd h (by decide)), (fun j h => by cases h)⟩
        · intro w26 hE
          intro RR
          refine WL.move rfl rfl ?_
          exact WL.done ⟨_, rfl, rfl, rfl, (fun h => absurd h (by decide)), (fun j h => by cases h)⟩
        · intro w27 hE
          intro RR
          refine WL.move rfl rfl ?_
          exact WL.done ⟨_, rfl, rfl, rfl, (fun h => absurd h (by decide)), (fun j h => by cases h)⟩
        · intro w28 hE
          rintro _ rfl
          rintro _ rfl
          intro RR
          refine SL.indexW Try.underlying22 Try.el3 (hS.rd (i := 0) rfl) rfl rfl o29 rfl ?_
          exact WL.done ⟨_, rfl, rfl, rfl, (fun h => absurd h (by decide)), (fun j h => by cases h)⟩
        · intro w30 hE
          have hE := hE rfl
          have hS := hS.grow hE
          rintro _ rfl
          intro RR
          refine WL.load Try.underlying3 rfl rfl (Rd.giW (hS.rd (i := 0) rfl) o29) rfl ?_
          exact WL.done ⟨_, rfl, ext_refl _, rfl, (fun h => absurd h (by decide)), (fun j h => by cases h)⟩
        · intro w31 hE
          intro RR
          refine WL.move rfl rfl ?_
          exact WL.done ⟨_, rfl, rfl, rfl, (fun h => absurd h (by decide)), (fun j h => by cases h)⟩
        · intro w32 hE
          intro RR
          refine WL.move rfl rfl ?_
          exact WL.done ⟨_, rfl, rfl, rfl, (fun h => absurd h (by decide)), (fun j h => by cases h)⟩
        · intro w33 hE
          intro RR
          refine WL.move rfl rfl ?_
          exact WL.done ⟨_, rfl, rfl, rfl, (fun h => absurd h (by decide)), (fun j h => by cases h)⟩
        · intro w34 hE
          have hE := hE rfl
          have hS := hS.grow hE
          rintro _ rfl
          rintro _ rfl
          rintro _ rfl
          intro RR
          refine WL.call Try.func74 rfl Try.nm74 rfl rfl (calls_un (ok_Mul (GFR.extM hgg hS.ext hapg) o37)) ?_
          rintro _ w36 ⟨_, hGw36, hRww36, hNww36, r35q, rfl, rfl, he⟩
          subst he
          exact WL.done ⟨_, rfl, hGw36, rfl, (fun h => absurd h (by decide)), (fun j h => by cases h)⟩
        · intro w38 hE
          have hE := hE rfl
          have hS := hS.grow hE
          rintro _ rfl
          rintro _ rfl
          rintro _ rfl
          intro RR
          refine WL.call Try.func67 rfl Try.nm67 rfl rfl (calls_un (ok_Add (GFR.extM hgg hS.ext hapg) o41)) ?_
          rintro _ w40 ⟨_, hGw40, hRww40, hNww40, r39q, rfl, rfl, he⟩
          subst he
          exact WL.done ⟨_, rfl, hGw40, rfl, (fun h => absurd h (by decide)), (fun j h => by cases h)⟩
      · intro vals w42 hT hVs hAp hCp
        have hS := hS.grow hT
        have hv0 : vals 0 = _ := hVs 0 (by decide)
        have hv1 : vals 1 = _ := hVs 1 (by decide)
        have hv2 : vals 2 = _ := hVs 2 (by decide)
        have hv3 : vals 3 = _ := hVs 3 (by decide)
        have hv4 : vals 4 = _ := hVs 4 (by decide)
        have hv5 : vals 5 = _ := hVs 5 (by decide)
        have hv6 : vals 6 = _ := hVs 6 (by decide)
        have hv7 : vals 7 = _ := hVs 7 (by decide)
        have hv8 : vals 8 = _ := hVs 8 (by decide)
        have hv9 : vals 9 = _ := hVs 9 (by decide)
        have hv10 : vals 10 = _ := hVs 10 (by decide)
        have hv11 : vals 11 = _ := hVs 11 (by decide)
        rw [show (List.filterMap (fun i => Option.map (fun t => (t, vals i)) (dstAt _ i)) (List.range _)) = [(19, .slice (if ks = os then As else As.map (·.add (os * 1))) (s.length - os) (ks - os)), (20, .int .i64 z17), (21, .pointer (some ag)), (22, .slice (if ks = os then As else As.map (·.add (os * 1))) (s.length - os) (ks - os)), (23, .int .i64 z17), (24, .pointer (some ((adOf As).add (os + z17.toNat)))), (25, .int .i64 (gi x16 ((os + z17.toNat : Nat) : Int))), (26, .pointer (some ag)), (27, .int .i64 a), (28, .int .i64 (gi p z17)), (29, .int .i64 r35), (30, .int .i64 r39)] from by
          show [(19, vals 0), (20, vals 1), (21, vals 2), (22, vals 3), (23, vals 4), (24, vals 5), (25, vals 6), (26, vals 7), (27, vals 8), (28, vals 9), (29, vals 10), (30, vals 11)] = _
          rw [hv0, hv1, hv2, hv3, hv4, hv5, hv6, hv7, hv8, hv9, hv10, hv11]]
        refine WA.step [12] (by decide +kernel) rfl ?_
        intro iQ hQ
        simp only [List.mem_cons, List.not_mem_nil, or_false] at hQ
        obtain rfl := hQ
        refine ⟨_, rfl, ?_⟩
        obtain ⟨o43, hv⟩ := hv
        refine SL.indexW Try.underlying22 Try.el3 (hS.rd (i := 0) rfl) rfl rfl o43 rfl ?_
        refine WL.done ?_
        refine WA.step [13] (by decide +kernel) rfl ?_
        intro iQ hQ
        simp only [List.mem_cons, List.not_mem_nil, or_false] at hQ
        obtain rfl := hQ
        refine ⟨_, rfl, ?_⟩
        refine SL.store (cs' := is (si x16 ((os + z17.toNat : Nat) : Int) r39)) 0 (os + z17.toNat) hS rfl Try.el3 rfl rfl rfl (is_ltW (hS.rd (i := 0) rfl) o43) (is_set _ (os + z17.toNat) _) ?_
        intro w44 hS
        refine WL.done ?_
        refine WA.done (by decide +kernel) ?_
        refine W.region ?_
        obtain ⟨o45, hv⟩ := hv
        refine WL.add (r := (z17 + (1 : Int))) rfl rfl (wr o45) rfl ?_
        refine WL.move rfl rfl ?_
        refine WL.done ?_
        change St _ _ _ _ [.row 3 1 As s.length ks (is (si x16 ((os + z17.toNat : Nat) : Int) r39))] at hS
        exact ⟨(si x16 ((os + z17.toNat : Nat) : Int) r39, (z17 + (1 : Int))), ⟨rfl, rfl, rfl, rfl, rfl, rfl, trivial⟩, hv.2, rfl, hv.1, hS⟩
    · have hv := hv.2 (of_decide_eq_false c21)
      refine W.exit ?_
      refine ⟨_, rfl, Fin.nil ?_⟩
      exact ⟨_, hS.ext, hS.own (i := 0) rfl, x16, rfl, rfl, hv⟩

def V_times (Fg : GFv) (p : List Int) (t : List Int) (Q : List Int → Prop) : Prop :=
  ((((p.length : Nat) : Int) = (0 : Int)) → (Q ([] : List Int))) ∧ (¬ (((p.length : Nat) : Int) = (0 : Int)) → (((((t.length : Nat) : Int) = (0 : Int)) → (Q ([] : List Int))) ∧ (¬ (((t.length : Nat) : Int) = (0 : Int)) → ((I64 (((p.length : Nat) : Int) + ((t.length : Nat) : Int))) ∧ ((I64 ((((p.length : Nat) : Int) + ((t.length : Nat) : Int)) - (1 : Int))) ∧ ((0 ≤ ((((p.length : Nat) : Int) + ((t.length : Nat) : Int)) - (1 : Int)) ∧ ((((p.length : Nat) : Int) + ((t.length : Nat) : Int)) - (1 : Int)) * 8 ≤ 281474976710656 ∧ ((((p.length : Nat) : Int) + ((t.length : Nat) : Int)) - (1 : Int)) ≤ 281474976710656) ∧ (∃ (I25 : List Int → Int → Prop) (μ26 : List Int → Int → Nat), I25 (List.replicate ((((p.length : Nat) : Int) + ((t.length : Nat) : Int)) - (1 : Int)).toNat (0 : Int)) (0 : Int) ∧ ∀ (x23 : List Int) (z24 : Int), (I25 x23 z24 → (((z24 < ((t.length : Nat) : Int)) → ((0 ≤ z24 ∧ z24 < (t.length : Nat)) ∧ ((0 ≤ z24 ∧ z24 ≤ (((((p.length : Nat) : Int) + ((t.length : Nat) : Int)) - (1 : Int)).toNat : Nat)) ∧ (V_addMultiple Fg x23 z24.toNat (gi t z24) p (fun x32 => (I64 (z24 + (1 : Int))) ∧ (I25 x32 (z24 + (1 : Int)) ∧ μ26 x32 (z24 + (1 : Int)) < μ26 x23 z24)))))) ∧ (¬ (z24 < ((t.length : Nat) : Int)) → Q x23))))))))))
theorem ok_times {w : World} {Q : List Int → Prop} {Fg : GFv} {p : List Int} {t : List Int} {ag : Addr} {Bg : Nat} (hgg : GFR Bg w ag Fg) {Bp : Nat} {Ap : Option Addr} {np kp : Nat} (hp : Rd Bp w 1 Ap np kp (is p)) {Bt : Nat} {At : Option Addr} {nt kt : Nat} (ht : Rd Bt w 1 At nt kt (is t)) (hv : V_times Fg p t Q) :
    Calls Try.prog 70 #[.pointer (some ag), .slice Ap np kp, .slice At nt kt] w fun e w' => ∃ v Qr, e = .returned v ∧ w.grownBy w' none ∧ Rows w.heap.size none w' Qr ∧ News w.heap.size Qr ∧ ∃ (r0 : List Int) (Ar0 : Option Addr) (cr0 : Nat), v = .slice Ar0 r0.length cr0 ∧ Qr = [.row 3 1 Ar0 r0.length cr0 (is r0)] ∧ Q r0 := by
  have hgg_ := hgg
  obtain ⟨Ag_mod, kg_mod, Ag_exp, kg_exp, Ag_log, kg_log, Ag_above, kg_above, hg_c, hg_mod, hg_exp, hg_log, hg_above⟩ := hgg_
  have hnp := hp.ilen
  subst hnp
  have hnt := ht.ilen
  subst hnt
  refine calls_swap ?_
  refine calls_of_W (vs := [.pointer (some ag), .slice Ap p.length kp, .slice At t.length kt]) [6] Try.func70 rfl rfl rfl rfl ?_
  have hS := St.start w
  unfold V_times at hv
  refine W.seq ?_
  refine W.region ?_
  refine WL.assign rfl rfl ?_
  refine WL.done ?_
  refine W.seq ?_
  refine W.seq ?_
  refine W.region ?_
  refine WL.move rfl rfl ?_
  refine WL.len Try.underlying22 rfl rfl ?_
  refine WL.eqlD rfl rfl rfl ?_
  refine WL.move rfl rfl ?_
  by_cases g11 : ((p.length : Nat) : Int) = (0 : Int)
  · have hv := hv.1 g11
    rw [decide_eq_true g11]
    refine WL.pass rfl rfl rfl ?_
    refine WL.pass rfl rfl rfl ?_
    refine WL.pass rfl rfl rfl ?_
    refine WL.pick rfl rfl rfl ?_
    refine WL.done ?_
    refine W.condT rfl ?_
    refine W.seq ?_
    refine W.region ?_
    refine WL.assign rfl rfl ?_
    refine WL.done ?_
    refine W.ret ?_
    have hS := hS.nil (e := 3) (z := 1)
    refine ⟨_, rfl, Fin.nil ?_⟩
    exact ⟨_, hS.ext, (hS.pick [0] rfl).rows, News.of (hS.pick [0] rfl).rows rfl, ⟨([] : List Int), none, 0, rfl, rfl, hv⟩⟩
  · have hv := hv.2 g11
    rw [decide_eq_false g11]
    refine WL.take rfl ?_
    refine WL.move rfl rfl ?_
    refine WL.take rfl ?_
    refine WL.len Try.underlying22 rfl rfl ?_
    refine WL.take rfl ?_
    refine WL.eqlD rfl rfl rfl ?_
    refine WL.pick rfl rfl rfl ?_
    refine WL.done ?_
    refine W.cond2 rfl (fun c12 => ?_) (fun c12 => ?_)
    · have hv := hv.1 (of_decide_eq_true c12)
      refine W.seq ?_
      refine W.region ?_
      refine WL.assign rfl rfl ?_
      refine WL.done ?_
      refine W.ret ?_
      have hS := hS.nil (e := 3) (z := 1)
      refine ⟨_, rfl, Fin.nil ?_⟩
      exact ⟨_, hS.ext, (hS.pick [0] rfl).rows, News.of (hS.pick [0] rfl).rows rfl, ⟨([] : List Int), none, 0, rfl, rfl, hv⟩⟩
    · have hv := hv.2 (of_decide_eq_false c12)
      refine W.skip ?_
      refine W.seq ?_
      refine W.region ?_
      refine WL.move rfl rfl ?_
      refine WL.len Try.underlying22 rfl rfl ?_
      refine WL.move rfl rfl ?_
      refine WL.len Try.underlying22 rfl rfl ?_
      obtain ⟨o13, hv⟩ := hv
      refine WL.add (r := (((p.length : Nat) : Int) + ((t.length : Nat) : Int))) rfl rfl (wr o13) rfl ?_
      obtain ⟨o14, hv⟩ := hv
      refine WL.sub (r := ((((p.length : Nat) : Int) + ((t.length : Nat) : Int)) - (1 : Int))) rfl rfl (wr o14) rfl ?_
      obtain ⟨o15, hv⟩ := hv
      refine SL.make (J := ((((p.length : Nat) : Int) + ((t.length : Nat) : Int)) - (1 : Int))) hS Try.underlying22 Try.el3 rfl rfl o15 (made_is _) rfl ?_
      intro A16 w17 hS
      refine WL.assign rfl rfl ?_
      refine WL.done ?_
      refine W.seq ?_
      refine W.seq ?_
      refine W.region ?_
      refine WL.move rfl rfl ?_
      refine WL.len Try.underlying22 rfl rfl ?_
      refine WL.move rfl rfl ?_
      refine WL.done ?_
      refine W.block ?_
      obtain ⟨I25, μ26, hv, hk34⟩ := hv
      change St _ _ _ _ [.row 3 1 A16 (((((p.length : Nat) : Int) + ((t.length : Nat) : Int)) - (1 : Int)).toNat) (((((p.length : Nat) : Int) + ((t.length : Nat) : Int)) - (1 : Int)).toNat) (is (List.replicate ((((p.length : Nat) : Int) + ((t.length : Nat) : Int)) - (1 : Int)).toNat (0 : Int)))] at hS
      refine W.loop (σ := List Int × Int) (fun q w1 => match q with | (x23, z24) => I25 x23 z24 ∧ St TT w none w1 [.row 3 1 A16 (((((p.length : Nat) : Int) + ((t.length : Nat) : Int)) - (1 : Int)).toNat) (((((p.length : Nat) : Int) + ((t.length : Nat) : Int)) - (1 : Int)).toNat) (is x23)]) (fun q => match q with | (x23, z24) => [(0, .pointer (some ag)), (1, .slice Ap p.length kp), (6, .slice none 0 0), (7, .slice A16 (((((p.length : Nat) : Int) + ((t.length : Nat) : Int)) - (1 : Int)).toNat) (((((p.length : Nat) : Int) + ((t.length : Nat) : Int)) - (1 : Int)).toNat)), (25, .slice At t.length kt), (26, .int .i64 ((t.length : Nat) : Int)), (27, .int .i64 z24)]) (fun q => match q with | (x23, z24) => μ26 x23 z24) (List.replicate ((((p.length : Nat) : Int) + ((t.length : Nat) : Int)) - (1 : Int)).toNat (0 : Int), (0 : Int)) ⟨hv, hS⟩ ⟨rfl, rfl, rfl, rfl, rfl, rfl, rfl, trivial⟩ ?_
      rintro ⟨x23, z24⟩ w27 ⟨hv, hS⟩
      have hv := hk34 x23 z24 hv
      refine W.seq ?_
      refine W.region ?_
      refine WL.lssD rfl rfl rfl ?_
      refine WL.done ?_
      refine W.seq ?_
      refine W.cond2 rfl (fun c28 => ?_) (fun c28 => ?_)
      · have hv := hv.1 (of_decide_eq_true c28)
        refine W.skip ?_
        refine W.seq ?_
        refine W.block ?_
        refine W.seq ?_
        refine W.region ?_
        refine WL.move rfl rfl ?_
        obtain ⟨o29, hv⟩ := hv
        refine SL.index Try.underlying22 Try.el3 (hS.ro ht) rfl rfl o29 rfl ?_
        refine WL.load Try.underlying3 rfl rfl (Rd.gi (hS.ro ht) o29) rfl ?_
        refine WL.assign rfl rfl ?_
        refine WL.assign rfl rfl ?_
        refine WL.done ?_
        refine W.region ?_
        refine WL.move rfl rfl ?_
        refine WL.move rfl rfl ?_
        refine WL.move rfl rfl ?_
        obtain ⟨o30, hv⟩ := hv
        refine SL.slFrom Try.underlying22 Try.el3 (hS.rd (i := 0) rfl) rfl rfl o30 rfl ?_
        refine WL.move rfl rfl ?_
        refine WL.move rfl rfl ?_
        refine SL.callm 0 hS rfl (ok_addMultiple (GFR.ext (GFR.norm hgg) hS.ext) (hS.own (i := 0) rfl) (by omega) (hS.ro hp) (hS.base (i := 0) rfl) (hS.aptRo (i := 0) rfl hp) hv) Try.func75 rfl Try.nm75 rfl rfl ?_
        rintro _ _ w31 ⟨x32, rfl, rfl, hv⟩ hS
        change St _ _ _ _ [.row 3 1 A16 (((((p.length : Nat) : Int) + ((t.length : Nat) : Int)) - (1 : Int)).toNat) (((((p.length : Nat) : Int) + ((t.length : Nat) : Int)) - (1 : Int)).toNat) (is x32)] at hS
        refine WL.done ?_
        refine W.region ?_
        obtain ⟨o33, hv⟩ := hv
        refine WL.add (r := (z24 + (1 : Int))) rfl rfl (wr o33) rfl ?_
        refine WL.move rfl rfl ?_
        refine WL.done ?_
        change St _ _ _ _ [.row 3 1 A16 (((((p.length : Nat) : Int) + ((t.length : Nat) : Int)) - (1 : Int)).toNat) (((((p.length : Nat) : Int) + ((t.length : Nat) : Int)) - (1 : Int)).toNat) (is x32)] at hS
        exact ⟨(x32, (z24 + (1 : Int))), ⟨rfl, rfl, rfl, rfl, rfl, rfl, rfl, trivial⟩, hv.2, rfl, hv.1, hS⟩
      · have hv := hv.2 (of_decide_eq_false c28)
        refine W.exit ?_
        refine W.seq ?_
        refine W.region ?_
        refine WL.move rfl rfl ?_
        refine WL.assign rfl rfl ?_
        refine WL.done ?_
        refine W.ret ?_
        have hm0 := (hS.rd (i := 0) rfl).ilen
        have hS := hS.relen (i := 0) rfl hm0.symm
        refine ⟨_, rfl, Fin.nil ?_⟩
        exact ⟨_, hS.ext, (hS.pick [0] rfl).rows, News.of (hS.pick [0] rfl).rows rfl, ⟨x23, A16, ((((p.length : Nat) : Int) + ((t.length : Nat) : Int)) - (1 : Int)).toNat, (by first | (rw [hm0]; done) | (rw [hm0]; rfl)), rfl, hv⟩⟩

def V_pmul (Fg : GFv) (fs : List (List Int)) (Q : List Int → Prop) : Prop :=
  ∃ (I29 : List Int → Int → Prop) (μ30 : List Int → Int → Nat), I29 ([(1 : Int)] : List Int) (0 : Int) ∧ ∀ (x24 : List Int) (z28 : Int), (I29 x24 z28 → (((z28 < ((fs.length : Nat) : Int)) → ((0 ≤ z28 ∧ z28 < (fs.length : Nat)) ∧ (V_canon Fg (gl fs z28) (fun x40 => V_times Fg x24 x40 (fun x45 => (I64 (z28 + (1 : Int))) ∧ (I29 x45 (z28 + (1 : Int)) ∧ μ30 x45 (z28 + (1 : Int)) < μ30 x24 z28)))))) ∧ (¬ (z28 < ((fs.length : Nat) : Int)) → Q x24)))
theorem ok_pmul {w : World} {Q : List Int → Prop} {Fg : GFv} {fs : List (List Int)} {ag : Addr} {Bg : Nat} (hgg : GFR Bg w ag Fg) {Afs : Option Addr} {nfs kfs : Nat} (hfs : Rl w Afs nfs kfs fs) (hv : V_pmul Fg fs Q) :
    Calls Try.prog 32 #[.pointer (some ag), .slice Afs nfs kfs] w fun e w' => ∃ v Qr, e = .returned v ∧ w.grownBy w' none ∧ Rows w.heap.size none w' Qr ∧ News w.heap.size Qr ∧ ∃ (r0 : List Int) (Ar0 : Option Addr) (cr0 : Nat), v = .slice Ar0 r0.length cr0 ∧ Qr = [.row 3 1 Ar0 r0.length cr0 (is r0)] ∧ Q r0 := by
  have hgg_ := hgg
  obtain ⟨Ag_mod, kg_mod, Ag_exp, kg_exp, Ag_log, kg_log, Ag_above, kg_above, hg_c, hg_mod, hg_exp, hg_log, hg_above⟩ := hgg_
  have hnfs := hfs.len
  subst hnfs
  refine calls_swap ?_
  refine calls_of_W (vs := [.pointer (some ag), .slice Afs fs.length kfs]) [4] Try.func32 rfl rfl rfl rfl ?_
  have hS := St.start w
  unfold V_pmul at hv
  refine W.seq ?_
  refine W.region ?_
  refine WL.assign rfl rfl ?_
  refine WL.done ?_
  refine W.seq ?_
  refine W.region ?_
  refine SL.lit1 (vs := is ([(1 : Int)] : List Int)) hS Try.underlying22 Try.el3 rfl rfl rfl rfl (is_one _) rfl ?_
  intro A11 w12 hS
  refine WL.assign rfl rfl ?_
  refine WL.done ?_
  refine W.seq ?_
  refine W.seq ?_
  refine W.region ?_
  refine WL.move rfl rfl ?_
  refine WL.len Try.underlying37 rfl rfl ?_
  refine WL.move rfl rfl ?_
  refine WL.done ?_
  refine W.block ?_
  obtain ⟨I29, μ30, hv, hk50⟩ := hv
  have hm0 : 1 = ([(1 : Int)] : List Int).length := (hS.rd (i := 0) rfl).ilen.symm
  have hS := hS.relen (i := 0) rfl hm0
  change St _ _ _ _ [.row 3 1 A11 ([(1 : Int)] : List Int).length 1 (is ([(1 : Int)] : List Int))] at hS
  refine W.loop (σ := List Int × Int × Option Addr × Nat) (fun q w1 => match q with | (x24, z28, A25, k26) => I29 x24 z28 ∧ St TT w none w1 [.row 3 1 A25 x24.length k26 (is x24)]) (fun q => match q with | (x24, z28, A25, k26) => [(0, .pointer (some ag)), (4, .slice none 0 0), (5, .slice A25 x24.length k26), (9, .slice Afs fs.length kfs), (10, .int .i64 ((fs.length : Nat) : Int)), (11, .int .i64 z28)]) (fun q => match q with | (x24, z28, A25, k26) => μ30 x24 z28) (([(1 : Int)] : List Int), (0 : Int), A11, 1) ⟨hv, hS⟩ ⟨rfl, rfl, (sm (by first | rfl | assumption | omega)), rfl, rfl, rfl, trivial⟩ ?_
  rintro ⟨x24, z28, A25, k26⟩ w31 ⟨hv, hS⟩
  have hv := hk50 x24 z28 hv
  refine W.seq ?_
  refine W.region ?_
  refine WL.lssD rfl rfl rfl ?_
  refine WL.done ?_
  refine W.seq ?_
  refine W.cond2 rfl (fun c32 => ?_) (fun c32 => ?_)
  · have hv := hv.1 (of_decide_eq_true c32)
    refine W.skip ?_
    refine W.seq ?_
    refine W.block ?_
    refine W.seq ?_
    refine W.region ?_
    obtain ⟨o33, hv⟩ := hv
    refine SL.indexL Try.underlying37 Try.el22 hfs rfl rfl o33 rfl ?_
    obtain ⟨A34, k35, B36, hc37, hr38⟩ := Rl.at_ hfs o33
    have hc37 := hS.cell hc37
    refine WL.load Try.underlying22 rfl rfl hc37 rfl ?_
    refine WL.assign rfl rfl ?_
    refine WL.done ?_
    refine W.region ?_
    refine WL.move rfl rfl ?_
    refine WL.move rfl rfl ?_
    refine WL.move rfl rfl ?_
    refine WL.move rfl rfl ?_
    refine SL.call hS (ok_canon (GFR.ext (GFR.norm hgg) hS.ext) (hS.ro hr38) hv) Try.func22 rfl Try.nm22 rfl rfl ?_
    rintro _ _ w39 ⟨x40, A41, k42, rfl, rfl, hv⟩ hGw39 hS
    change St _ _ _ _ [.row 3 1 A41 x40.length k42 (is x40), .row 3 1 A25 x24.length k26 (is x24)] at hS
    refine SL.call hS (ok_times (GFR.ext (GFR.norm hgg) hS.ext) (hS.rd (i := 1) rfl) (hS.rd (i := 0) rfl) hv) Try.func70 rfl Try.nm70 rfl rfl ?_
    rintro _ _ w44 ⟨x45, A46, k47, rfl, rfl, hv⟩ hGw44 hS
    change St _ _ _ _ [.row 3 1 A46 x45.length k47 (is x45), .row 3 1 A41 x40.length k42 (is x40), .row 3 1 A25 x24.length k26 (is x24)] at hS
    refine WL.assign rfl rfl ?_
    refine WL.done ?_
    refine W.region ?_
    obtain ⟨o49, hv⟩ := hv
    refine WL.add (r := (z28 + (1 : Int))) rfl rfl (wr o49) rfl ?_
    refine WL.move rfl rfl ?_
    refine WL.done ?_
    have hS := hS.pick [0] rfl
    change St _ _ _ _ [.row 3 1 A46 x45.length k47 (is x45)] at hS
    exact ⟨(x45, (z28 + (1 : Int)), A46, k47), ⟨rfl, rfl, rfl, rfl, rfl, rfl, trivial⟩, hv.2, rfl, hv.1, hS⟩
  · have hv := hv.2 (of_decide_eq_false c32)
    refine W.exit ?_
    refine W.seq ?_
    refine W.region ?_
    refine WL.move rfl rfl ?_
    refine WL.assign rfl rfl ?_
    refine WL.done ?_
    refine W.ret ?_
    refine ⟨_, rfl, Fin.nil ?_⟩
    exact ⟨_, hS.ext, (hS.pick [0] rfl).rows, News.of (hS.pick [0] rfl).rows rfl, ⟨x24, A25, k26, rfl, rfl, hv⟩⟩

def V_pdivmod (Fg : GFv) (p : List Int) (t : List Int) (Q : List Int × List Int × Int → Prop) : Prop :=
  ∃ (x22 : List Int), V_canon Fg p (fun q => q = x22) ∧ (V_canon Fg t (fun x35 => ((((x35.length : Nat) : Int) = (0 : Int)) → (Q (([] : List Int), ([] : List Int), (7 : Int)))) ∧ (¬ (((x35.length : Nat) : Int) = (0 : Int)) → (∃ J47 : Int → Int → Prop, ((I64 (((x35.length : Nat) : Int) - (1 : Int))) ∧ ((0 ≤ (((x35.length : Nat) : Int) - (1 : Int)) ∧ (((x35.length : Nat) : Int) - (1 : Int)) < (x35.length : Nat)) ∧ (∃ (r58 : Int) (r59 : Int), V_Inv Fg (gi x35 (((x35.length : Nat) : Int) - (1 : Int))) (fun q => q = (r58, r59)) ∧ J47 r59 r58))) ∧ ∀ (z44 : Int) (z46 : Int), (J47 z44 z46 → ((I64 (((x22.length : Nat) : Int) - ((x35.length : Nat) : Int))) ∧ ((I64 ((((x22.length : Nat) : Int) - ((x35.length : Nat) : Int)) + (1 : Int))) ∧ ((0 ≤ (max (0 : Int) ((((x22.length : Nat) : Int) - ((x35.length : Nat) : Int)) + (1 : Int))) ∧ (max (0 : Int) ((((x22.length : Nat) : Int) - ((x35.length : Nat) : Int)) + (1 : Int))) * 8 ≤ 281474976710656 ∧ (max (0 : Int) ((((x22.length : Nat) : Int) - ((x35.length : Nat) : Int)) + (1 : Int))) ≤ 281474976710656) ∧ (V_backward (List.replicate (max (0 : Int) ((((x22.length : Nat) : Int) - ((x35.length : Nat) : Int)) + (1 : Int))).toNat (0 : Int)) (fun _ => ∃ (I90 : Nat → List Int → List Int → Prop), I90 0 (List.replicate (max (0 : Int) ((((x22.length : Nat) : Int) - ((x35.length : Nat) : Int)) + (1 : Int))).toNat (0 : Int)) x22 ∧ (∀ i83 : Nat, i83 < ((max (0 : Int) ((((x22.length : Nat) : Int) - ((x35.length : Nat) : Int)) + (1 : Int))).toNat) → ∀ (x88 : List Int) (x89 : List Int), I90 i83 x88 x89 → ((I64 ((((max (0 : Int) ((((x22.length : Nat) : Int) - ((x35.length : Nat) : Int)) + (1 : Int))).toNat - 1 - i83 : Nat) : Int) + ((x35.length : Nat) : Int))) ∧ ((I64 (((((max (0 : Int) ((((x22.length : Nat) : Int) - ((x35.length : Nat) : Int)) + (1 : Int))).toNat - 1 - i83 : Nat) : Int) + ((x35.length : Nat) : Int)) - (1 : Int))) ∧ ((0 ≤ (((((max (0 : Int) ((((x22.length : Nat) : Int) - ((x35.length : Nat) : Int)) + (1 : Int))).toNat - 1 - i83 : Nat) : Int) + ((x35.length : Nat) : Int)) - (1 : Int)) ∧ (((((max (0 : Int) ((((x22.length : Nat) : Int) - ((x35.length : Nat) : Int)) + (1 : Int))).toNat - 1 - i83 : Nat) : Int) + ((x35.length : Nat) : Int)) - (1 : Int)) < (x22.length : Nat)) ∧ (∃ (r108 : Int), V_Mul Fg (gi x89 (((((max (0 : Int) ((((x22.length : Nat) : Int) - ((x35.length : Nat) : Int)) + (1 : Int))).toNat - 1 - i83 : Nat) : Int) + ((x35.length : Nat) : Int)) - (1 : Int))) z46 (fun q => q = r108) ∧ ((0 ≤ (((max (0 : Int) ((((x22.length : Nat) : Int) - ((x35.length : Nat) : Int)) + (1 : Int))).toNat - 1 - i83 : Nat) : Int) ∧ (((max (0 : Int) ((((x22.length : Nat) : Int) - ((x35.length : Nat) : Int)) + (1 : Int))).toNat - 1 - i83 : Nat) : Int) < ((max (0 : Int) ((((x22.length : Nat) : Int) - ((x35.length : Nat) : Int)) + (1 : Int))).toNat : Nat)) ∧ ((0 ≤ (((max (0 : Int) ((((x22.length : Nat) : Int) - ((x35.length : Nat) : Int)) + (1 : Int))).toNat - 1 - i83 : Nat) : Int) ∧ (((max (0 : Int) ((((x22.length : Nat) : Int) - ((x35.length : Nat) : Int)) + (1 : Int))).toNat - 1 - i83 : Nat) : Int) ≤ (x22.length : Nat)) ∧ ((0 ≤ (((max (0 : Int) ((((x22.length : Nat) : Int) - ((x35.length : Nat) : Int)) + (1 : Int))).toNat - 1 - i83 : Nat) : Int) ∧ (((max (0 : Int) ((((x22.length : Nat) : Int) - ((x35.length : Nat) : Int)) + (1 : Int))).toNat - 1 - i83 : Nat) : Int) < ((max (0 : Int) ((((x22.length : Nat) : Int) - ((x35.length : Nat) : Int)) + (1 : Int))).toNat : Nat)) ∧ (∃ (r126 : Int), V_Neg Fg (gi (si x88 (((max (0 : Int) ((((x22.length : Nat) : Int) - ((x35.length : Nat) : Int)) + (1 : Int))).toNat - 1 - i83 : Nat) : Int) r108) (((max (0 : Int) ((((x22.length : Nat) : Int) - ((x35.length : Nat) : Int)) + (1 : Int))).toNat - 1 - i83 : Nat) : Int)) (fun q => q = r126) ∧ (V_addMultiple Fg x89 ((((max (0 : Int) ((((x22.length : Nat) : Int) - ((x35.length : Nat) : Int)) + (1 : Int))).toNat - 1 - i83 : Nat) : Int).toNat) r126 x35 (fun x132 => I90 (i83 + 1) (si x88 (((max (0 : Int) ((((x22.length : Nat) : Int) - ((x35.length : Nat) : Int)) + (1 : Int))).toNat - 1 - i83 : Nat) : Int) r108) x132))))))))))) ∧ (∀ (x88 : List Int) (x89 : List Int), I90 ((max (0 : Int) ((((x22.length : Nat) : Int) - ((x35.length : Nat) : Int)) + (1 : Int))).toNat) x88 x89 → (∃ (j139 : Int), V_trim Fg x89 (fun q => q = j139) ∧ ((0 ≤ j139 ∧ j139 ≤ (x22.length : Nat)) ∧ (Q (x88, x89.take j139.toNat, z44)))))))))))))))
theorem ok_pdivmod {w : World} {Q : List Int × List Int × Int → Prop} {Fg : GFv} {p : List Int} {t : List Int} {ag : Addr} {Bg : Nat} (hgg : GFR Bg w ag Fg) {Bp : Nat} {Ap : Option Addr} {np kp : Nat} (hp : Rd Bp w 1 Ap np kp (is p)) {Bt : Nat} {At : Option Addr} {nt kt : Nat} (ht : Rd Bt w 1 At nt kt (is t)) (hv : V_pdivmod Fg p t Q) :
    Calls Try.prog 37 #[.pointer (some ag), .slice Ap np kp, .slice At nt kt] w fun e w' => ∃ v Qr, e = .returned v ∧ w.grownBy w' none ∧ Rows w.heap.size none w' Qr ∧ News w.heap.size Qr ∧ ∃ (r0 : List Int) (r1 : List Int) (r2 : Int) (Ar0 : Option Addr) (cr0 : Nat) (Ar1 : Option Addr) (cr1 : Nat), v = .tuple #[.slice Ar0 r0.length cr0, .slice Ar1 r1.length cr1, .int .i64 r2] ∧ Qr = [.row 3 1 Ar0 r0.length cr0 (is r0), .row 3 1 Ar1 r1.length cr1 (is r1)] ∧ Q (r0, r1, r2) := by
  have hgg_ := hgg
  obtain ⟨Ag_mod, kg_mod, Ag_exp, kg_exp, Ag_log, kg_log, Ag_above, kg_above, hg_c, hg_mod, hg_exp, hg_log, hg_above⟩ := hgg_
  have hnp := hp.ilen
  subst hnp
  have hnt := ht.ilen
  subst hnt
  refine calls_swap ?_
  refine calls_of_Wc (vs := [.pointer (some ag), .slice Ap p.length kp, .slice At t.length kt]) [.cell 6 22, .cell 7 22, .tmp 8] Try.func37 rfl rfl rfl rfl ?_
  have hS := St.start w
  unfold V_pdivmod at hv
  refine W.seq ?_
  refine W.region ?_
  refine SL.box (z := 1) (cs := [.pointer (some ag)]) hS rfl rfl rfl rfl ?_
  intro g11 w12 hS
  refine SL.box (z := 1) (cs := [.slice At t.length kt]) hS rfl rfl rfl rfl ?_
  intro g13 w14 hS
  refine SL.alloc (cs := [.slice none 0 0]) hS Try.el22 rfl rfl ?_
  intro g15 w16 hS
  refine SL.alloc (cs := [.slice none 0 0]) hS Try.el22 rfl rfl ?_
  intro g17 w18 hS
  refine WL.assign rfl rfl ?_
  refine WL.done ?_
  refine W.seq ?_
  obtain ⟨x22, o29, hv⟩ := hv
  have hS0 := hS
  refine W.drawX 5 (fun iA => [false, false, true, false, false].getD iA false) (fun _ => none) [⟨[], [3], false⟩, ⟨[], [1], true⟩, ⟨[0, 1], [], false⟩, ⟨[], [3], false⟩, ⟨[], [5], false⟩] [[(3, .pointer (some ⟨g11, 0, none⟩))], [(1, .slice Ap p.length kp)], [], [(3, .pointer (some ⟨g11, 0, none⟩))], [(5, .pointer (some ⟨g13, 0, none⟩))]] (fun iQ => [fun v _ => v = .pointer (some ag), fun v _ => v = .slice Ap p.length kp, fun v wQ => ∃ A23_2 k24_2, v = .slice A23_2 x22.length k24_2 ∧ Own 0 wQ 3 1 A23_2 x22.length k24_2 (is x22) ∧ (∀ g, bl A23_2 = some g → w18.heap.size ≤ g), fun v _ => v = .pointer (some ag), fun v _ => v = .slice At t.length kt].getD iQ (fun _ _ => True)) Try.mixed (by kernel_rfl) ?_ (by kernel_rfl) ?_ ?_
  · refine Vs_monoT _ ?_
    intro VQ hVQ vQ wQ1 wQ2 hQ1 hQ2
    simp only [List.mem_cons, List.not_mem_nil, or_false] at hVQ
    rcases hVQ with rfl | rfl | rfl | rfl | rfl
    · exact hQ1
    · exact hQ1
    · obtain ⟨A23_2, k24_2, hQe, hO27_2, hN28_2⟩ := hQ1
      exact ⟨A23_2, k24_2, hQe, hO27_2.ext hQ2, hN28_2⟩
    · exact hQ1
    · exact hQ1
  · refine ⟨⟨rfl, ⟨rfl, trivial⟩, ?_⟩, ⟨rfl, ⟨rfl, trivial⟩, ?_⟩, ⟨rfl, trivial, ?_⟩, ⟨rfl, ⟨rfl, trivial⟩, ?_⟩, ⟨rfl, ⟨rfl, trivial⟩, ?_⟩, trivial⟩
    · intro w19 hE
      have hE := hE rfl
      have hS := hS.grow hE
      intro RR
      refine WL.load Try.underlying26 rfl rfl (Own.vcells (hS.own (i := 3) rfl) 0 _ rfl) rfl ?_
      exact WL.done ⟨_, rfl, ext_refl _, rfl, (fun h => absurd h (by decide)), (fun j h => by cases h)⟩
    · intro w20 hE
      intro RR
      refine WL.move rfl rfl ?_
      exact WL.done ⟨_, rfl, rfl, rfl, (fun h => absurd h (by decide)), (fun j h => by cases h)⟩
    · intro w21 hE
      have hE := hE rfl
      have hS := hS.grow hE
      rintro _ rfl
      rintro _ rfl
      intro RR
      refine WL.call Try.func22 rfl Try.nm22 rfl rfl (calls_un (ok_canon (GFR.ext (GFR.norm hgg) hS.ext) (hS.ro hp) o29)) ?_
      rintro _ w26 ⟨_, hGw26, hRww26, hNww26, x22q, A23, k24, rfl, rfl, he⟩
      subst he
      have hO27 := (hRww26.get (i := 0) rfl).1
      have hN28 : ∀ g, bl A23 = some g → _ ≤ g := fun g hg => Nat.le_trans hE.size (hNww26.1 g hg)
      exact WL.done ⟨_, rfl, hGw26, ⟨A23, k24, rfl, hO27, hN28⟩, (fun _ => fun g hg => ⟨hNww26.1 g hg, (hO27.bl_ge g hg).2⟩), (fun j h => by cases h)⟩
    · intro w30 hE
      have hE := hE rfl
      have hS := hS.grow hE
      intro RR
      refine WL.load Try.underlying26 rfl rfl (Own.vcells (hS.own (i := 3) rfl) 0 _ rfl) rfl ?_
      exact WL.done ⟨_, rfl, ext_refl _, rfl, (fun h => absurd h (by decide)), (fun j h => by cases h)⟩
    · intro w31 hE
      have hE := hE rfl
      have hS := hS.grow hE
      intro RR
      refine WL.load Try.underlying22 rfl rfl (Own.vcells (hS.own (i := 2) rfl) 0 _ rfl) rfl ?_
      exact WL.done ⟨_, rfl, ext_refl _, rfl, (fun h => absurd h (by decide)), (fun j h => by cases h)⟩
  · intro vals w32 hT hVs hAp hCp
    have hS := hS.grow hT
    have hv0 : vals 0 = _ := hVs 0 (by decide)
    have hv1 : vals 1 = _ := hVs 1 (by decide)
    obtain ⟨A23_2, k24_2, hv2, hO27_2, hN28_2⟩ := hVs 2 (by decide)
    have hv3 : vals 3 = _ := hVs 3 (by decide)
    have hv4 : vals 4 = _ := hVs 4 (by decide)
    have hS := St.addOwn [] hS0 hS hO27_2 hN28_2 (fun s hs => by cases hs)
    change St _ _ _ _ [.row 3 1 A23_2 x22.length k24_2 (is x22), .row 22 1 (some ⟨g17, 0, none⟩) 1 1 [.slice none 0 0], .row 22 1 (some ⟨g15, 0, none⟩) 1 1 [.slice none 0 0], .row 22 1 (some ⟨g13, 0, none⟩) 1 1 [.slice At t.length kt], .row 26 1 (some ⟨g11, 0, none⟩) 1 1 [.pointer (some ag)]] at hS
    rw [show (List.filterMap (fun i => Option.map (fun t => (t, vals i)) (dstAt _ i)) (List.range _)) = [(11, .pointer (some ag)), (12, .slice Ap p.length kp), (13, .slice A23_2 x22.length k24_2), (14, .pointer (some ag)), (15, .slice At t.length kt)] from by
      show [(11, vals 0), (12, vals 1), (13, vals 2), (14, vals 3), (15, vals 4)] = _
      rw [hv0, hv1, hv2, hv3, hv4]]
    refine WA.step [5] (by decide +kernel) rfl ?_
    intro iQ hQ
    simp only [List.mem_cons, List.not_mem_nil, or_false] at hQ
    obtain rfl := hQ
    refine ⟨_, rfl, ?_⟩
    refine SL.call hS (ok_canon (GFR.ext (GFR.norm hgg) hS.ext) (hS.ro ht) hv) Try.func22 rfl Try.nm22 rfl rfl ?_
    rintro _ _ w34 ⟨x35, A36, k37, rfl, rfl, hv⟩ hGw34 hS
    change St _ _ _ _ [.row 3 1 A36 x35.length k37 (is x35), .row 3 1 A23_2 x22.length k24_2 (is x22), .row 22 1 (some ⟨g17, 0, none⟩) 1 1 [.slice none 0 0], .row 22 1 (some ⟨g15, 0, none⟩) 1 1 [.slice none 0 0], .row 22 1 (some ⟨g13, 0, none⟩) 1 1 [.slice At t.length kt], .row 26 1 (some ⟨g11, 0, none⟩) 1 1 [.pointer (some ag)]] at hS
    refine WL.done ?_
    refine WA.step [6] (by decide +kernel) rfl ?_
    intro iQ hQ
    simp only [List.mem_cons, List.not_mem_nil, or_false] at hQ
    obtain rfl := hQ
    refine ⟨_, rfl, ?_⟩
    refine SL.store (cs' := [.slice A23_2 x22.length k24_2]) 2 0 hS rfl Try.el22 rfl rfl rfl (of_ble rfl) rfl ?_
    intro w39 hS
    refine WL.done ?_
    refine WA.step [7] (by decide +kernel) rfl ?_
    intro iQ hQ
    simp only [List.mem_cons, List.not_mem_nil, or_false] at hQ
    obtain rfl := hQ
    refine ⟨_, rfl, ?_⟩
    refine SL.store (cs' := [.slice A36 x35.length k37]) 4 0 hS rfl Try.el22 rfl rfl rfl (of_ble rfl) rfl ?_
    intro w40 hS
    refine WL.done ?_
    refine WA.done (by decide +kernel) ?_
    refine W.seq ?_
    refine W.seq ?_
    refine W.region ?_
    refine WL.load Try.underlying22 rfl rfl (Own.vcells (hS.own (i := 4) rfl) 0 _ rfl) rfl ?_
    refine WL.len Try.underlying22 rfl rfl ?_
    refine WL.eqlD rfl rfl rfl ?_
    refine WL.done ?_
    refine W.cond2 rfl (fun c41 => ?_) (fun c41 => ?_)
    · have hv := hv.1 (of_decide_eq_true c41)
      refine W.seq ?_
      refine W.region ?_
      refine SL.store (cs' := [.slice none 0 0]) 3 0 hS rfl Try.el22 rfl rfl rfl (of_ble rfl) rfl ?_
      intro w42 hS
      refine SL.store (cs' := [.slice none 0 0]) 2 0 hS rfl Try.el22 rfl rfl rfl (of_ble rfl) rfl ?_
      intro w43 hS
      refine WL.assign rfl rfl ?_
      refine WL.done ?_
      refine W.ret ?_
      have hS := hS.nil (e := 3) (z := 1)
      have hS := hS.nil (e := 3) (z := 1)
      repeat with_reducible first | refine blk.ret ?_ | refine exits.retI ?_
      refine endC.mk ⟨[.slice none 0 0, .slice none 0 0, .int .i64 (7 : Int)], ⟨_, _, _, rfl, rfl, run_load1 Try.underlying22 rfl (Own.vcells (hS.own (i := 5) rfl) 0 _ rfl), ⟨_, _, _, rfl, rfl, run_load1 Try.underlying22 rfl (Own.vcells (hS.own (i := 4) rfl) 0 _ rfl), ⟨_, _, rfl, rfl, rfl⟩⟩⟩, ?_⟩
      exact ⟨_, hS.ext, (hS.pick [1, 0] rfl).rows, News.of (hS.pick [1, 0] rfl).rows rfl, ⟨([] : List Int), ([] : List Int), (7 : Int), none, 0, none, 0, rfl, rfl, hv⟩⟩
    · have hv := hv.2 (of_decide_eq_false c41)
      refine W.skip ?_
      refine W.seq ?_
      obtain ⟨J47, hv, hk149⟩ := hv
      refine W.cutN (σ := Int × Int × Nat) (fun q w1 => match q with | (z44, z46, g45) => J47 z44 z46 ∧ St TT w none w1 [.row 3 1 (some ⟨g45, 0, none⟩) 1 1 [.int .i64 z46], .row 3 1 A36 x35.length k37 (is x35), .row 3 1 A23_2 x22.length k24_2 (is x22), .row 22 1 (some ⟨g17, 0, none⟩) 1 1 [.slice A23_2 x22.length k24_2], .row 22 1 (some ⟨g15, 0, none⟩) 1 1 [.slice none 0 0], .row 22 1 (some ⟨g13, 0, none⟩) 1 1 [.slice A36 x35.length k37], .row 26 1 (some ⟨g11, 0, none⟩) 1 1 [.pointer (some ag)]]) (fun q => match q with | (z44, z46, g45) => [(3, .pointer (some ⟨g11, 0, none⟩)), (5, .pointer (some ⟨g13, 0, none⟩)), (6, .pointer (some ⟨g15, 0, none⟩)), (7, .pointer (some ⟨g17, 0, none⟩)), (8, .int .i64 z44), (9, .pointer (some ⟨g45, 0, none⟩))]) ?_ ?_
      · obtain ⟨o53, hv⟩ := hv
        obtain ⟨o55, hv⟩ := hv
        obtain ⟨r58, r59, o61, hv⟩ := hv
        have hS0 := hS
        refine W.drawXF 12 10 (fun iA => [false, false, false, false, false, false, false, false, false, false, false, true].getD iA false) (fun _ => none) [⟨[], [3], false⟩, ⟨[], [5], false⟩, ⟨[], [5], false⟩, ⟨[2], [], true⟩, ⟨[3], [], true⟩, ⟨[1, 4], [], true⟩, ⟨[5], [], false⟩, ⟨[0, 6], [], false⟩, ⟨[7], [], true⟩, ⟨[8], [], true⟩, ⟨[8], [], true⟩, ⟨[], [], false⟩] [[(3, .pointer (some ⟨g11, 0, none⟩))], [(5, .pointer (some ⟨g13, 0, none⟩))], [(5, .pointer (some ⟨g13, 0, none⟩))], [], [], [], [], [], [], [], [], []] (fun iQ => [fun v _ => v = .pointer (some ag), fun v _ => v = .slice A36 x35.length k37, fun v _ => v = .slice A36 x35.length k37, fun v _ => v = .int .i64 ((x35.length : Nat) : Int), fun v _ => v = .int .i64 (((x35.length : Nat) : Int) - (1 : Int)), fun v _ => v = .pointer (some ((adOf A36).add ((((x35.length : Nat) : Int) - (1 : Int)).toNat))), fun v _ => v = .int .i64 (gi x35 (((x35.length : Nat) : Int) - (1 : Int))), fun v _ => v = .tuple #[.int .i64 r58, .int .i64 r59], fun v _ => v = .tuple #[.int .i64 r58, .int .i64 r59], fun v _ => v = .int .i64 r58, fun v _ => v = .int .i64 r59, fun v wQ => ∃ g66_11, v = .pointer (some ⟨g66_11, 0, none⟩) ∧ Own 0 wQ 3 1 (some ⟨g66_11, 0, none⟩) 1 1 [.int .i64 (0 : Int)] ∧ (∀ g, bl (some ⟨g66_11, 0, none⟩) = some g → w40.heap.size ≤ g)].getD iQ (fun _ _ => True)) Try.mixed (by kernel_rfl) ?_ (by kernel_rfl) ?_ ?_ ?_
        · refine Vs_monoT _ ?_
          intro VQ hVQ vQ wQ1 wQ2 hQ1 hQ2
          simp only [List.mem_cons, List.not_mem_nil, or_false] at hVQ
          rcases hVQ with rfl | rfl | rfl | rfl | rfl | rfl | rfl | rfl | rfl | rfl | rfl | rfl
          · exact hQ1
          · exact hQ1
          · exact hQ1
          · exact hQ1
          · exact hQ1
          · exact hQ1
          · exact hQ1
          · exact hQ1
          · exact hQ1
          · exact hQ1
          · exact hQ1
          · obtain ⟨g66_11, hQe, hO68_11, hN69_11⟩ := hQ1
            exact ⟨g66_11, hQe, hO68_11.ext hQ2, hN69_11⟩
        · refine ⟨⟨rfl, ⟨rfl, trivial⟩, ?_⟩, ⟨rfl, ⟨rfl, trivial⟩, ?_⟩, ⟨rfl, ⟨rfl, trivial⟩, ?_⟩, ⟨rfl, trivial, ?_⟩, ⟨rfl, trivial, ?_⟩, ⟨rfl, trivial, ?_⟩, ⟨rfl, trivial, ?_⟩, ⟨rfl, trivial, ?_⟩, ⟨rfl, trivial, ?_⟩, ⟨rfl, trivial, ?_⟩, ⟨rfl, trivial, ?_⟩, ⟨rfl, trivial, ?_⟩, trivial⟩
          · intro w48 hE
            have hE := hE rfl
            have hS := hS.grow hE
            intro RR
            refine WL.load Try.underlying26 rfl rfl (Own.vcells (hS.own (i := 5) rfl) 0 _ rfl) rfl ?_
            exact WL.done ⟨_, rfl, ext_refl _, rfl, (fun h => absurd h (by decide)), (fun j h => by cases h)⟩
          · intro w49 hE
            have hE := hE rfl
            have hS := hS.grow hE
            intro RR
            refine WL.load Try.underlying22 rfl rfl (Own.vcells (hS.own (i := 4) rfl) 0 _ rfl) rfl ?_
            exact WL.done ⟨_, rfl, ext_refl _, rfl, (fun h => absurd h (by decide)), (fun j h => by cases h)⟩
          · intro w50 hE
            have hE := hE rfl
            have hS := hS.grow hE
            intro RR
            refine WL.load Try.underlying22 rfl rfl (Own.vcells (hS.own (i := 4) rfl) 0 _ rfl) rfl ?_
            exact WL.done ⟨_, rfl, ext_refl _, rfl, (fun h => absurd h (by decide)), (fun j h => by cases h)⟩
          · intro w51 hE
            rintro _ rfl
            intro RR
            refine WL.len Try.underlying22 rfl rfl ?_
            exact WL.done ⟨_, rfl, rfl, rfl, (fun h => absurd h (by decide)), (fun j h => by cases h)⟩
          · intro w52 hE
            rintro _ rfl
            intro RR
            refine WL.sub (r := (((x35.length : Nat) : Int) - (1 : Int))) rfl rfl (wr o53) rfl ?_
            exact WL.done ⟨_, rfl, rfl, rfl, (fun h => absurd h (by decide)), (fun j h => by cases h)⟩
          · intro w54 hE
            rintro _ rfl
            rintro _ rfl
            intro RR
            refine SL.index Try.underlying22 Try.el3 (hS.rd (i := 0) rfl) rfl rfl o55 rfl ?_
            exact WL.done ⟨_, rfl, rfl, rfl, (fun h => absurd h (by decide)), (fun j h => by cases h)⟩
          · intro w56 hE
            have hE := hE rfl
            have hS := hS.grow hE
            rintro _ rfl
            intro RR
            refine WL.load Try.underlying3 rfl rfl (Rd.gi (hS.rd (i := 0) rfl) o55) rfl ?_
            exact WL.done ⟨_, rfl, ext_refl _, rfl, (fun h => absurd h (by decide)), (fun j h => by cases h)⟩
          · intro w57 hE
            have hE := hE rfl
            have hS := hS.grow hE
            rintro _ rfl
            rintro _ rfl
            intro RR
            refine WL.call Try.func73 rfl Try.nm73 rfl rfl (calls_un (ok_Inv (GFR.ext (GFR.norm hgg) hS.ext) o61)) ?_
            rintro _ w60 ⟨_, hGw60, hRww60, hNww60, r58q, r59q, rfl, rfl, he⟩
            cases he
            exact WL.done ⟨_, rfl, hGw60, rfl, (fun h => absurd h (by decide)), (fun j h => by cases h)⟩
          · intro w62 hE
            rintro _ rfl
            intro RR
            refine WL.move rfl rfl ?_
            exact WL.done ⟨_, rfl, rfl, rfl, (fun h => absurd h (by decide)), (fun j h => by cases h)⟩
          · intro w63 hE
            rintro _ rfl
            intro RR
            refine WL.extract rfl rfl rfl ?_
            exact WL.done ⟨_, rfl, rfl, rfl, (fun h => absurd h (by decide)), (fun j h => by cases h)⟩
          · intro w64 hE
            rintro _ rfl
            intro RR
            refine WL.extract rfl rfl rfl ?_
            exact WL.done ⟨_, rfl, rfl, rfl, (fun h => absurd h (by decide)), (fun j h => by cases h)⟩
          · intro w65 hE
            have hE := hE rfl
            have hS := hS.grow hE
            intro RR
            refine WL.alloc Try.el3 rfl ?_
            intro g66 w67 hg66 hO68 hGw67
            have hN69 : ∀ g2, bl (some ⟨g66, 0, none⟩) = some g2 → _ ≤ g2 := fun g2 e => by cases e; rw [hg66]; exact hE.size
            have hO68 := Own.low (b' := 0) hO68 (Nat.zero_le _)
            exact WL.done ⟨_, rfl, hGw67, ⟨g66, rfl, hO68, hN69⟩, (fun _ => fun g2 hg2 => by cases hg2; exact ⟨Nat.le_of_eq hg66.symm, (hO68.bl_ge _ rfl).2⟩), (fun j h => by cases h)⟩
        · intro vals w70 hT hVs hAp hCp
          have hS := hS.grow hT
          have hv0 : vals 0 = _ := hVs 0 (by decide)
          have hv1 : vals 1 = _ := hVs 1 (by decide)
          have hv2 : vals 2 = _ := hVs 2 (by decide)
          have hv3 : vals 3 = _ := hVs 3 (by decide)
          have hv4 : vals 4 = _ := hVs 4 (by decide)
          have hv5 : vals 5 = _ := hVs 5 (by decide)
          have hv6 : vals 6 = _ := hVs 6 (by decide)
          have hv7 : vals 7 = _ := hVs 7 (by decide)
          have hv8 : vals 8 = _ := hVs 8 (by decide)
          have hv9 : vals 9 = _ := hVs 9 (by decide)
          have hv10 : vals 10 = _ := hVs 10 (by decide)
          obtain ⟨g66_11, hv11, hO68_11, hN69_11⟩ := hVs 11 (by decide)
          have hS := St.addOwn [] hS0 hS hO68_11 hN69_11 (fun s hs => by cases hs)
          change St _ _ _ _ [.row 3 1 (some ⟨g66_11, 0, none⟩) 1 1 [.int .i64 (0 : Int)], .row 3 1 A36 x35.length k37 (is x35), .row 3 1 A23_2 x22.length k24_2 (is x22), .row 22 1 (some ⟨g17, 0, none⟩) 1 1 [.slice A23_2 x22.length k24_2], .row 22 1 (some ⟨g15, 0, none⟩) 1 1 [.slice none 0 0], .row 22 1 (some ⟨g13, 0, none⟩) 1 1 [.slice A36 x35.length k37], .row 26 1 (some ⟨g11, 0, none⟩) 1 1 [.pointer (some ag)]] at hS
          rw [show (List.filterMap (fun i => Option.map (fun t => (t, vals i)) (dstAt _ i)) (List.range _)) = [(21, .pointer (some ag)), (22, .slice A36 x35.length k37), (23, .slice A36 x35.length k37), (24, .int .i64 ((x35.length : Nat) : Int)), (25, .int .i64 (((x35.length : Nat) : Int) - (1 : Int))), (26, .pointer (some ((adOf A36).add ((((x35.length : Nat) : Int) - (1 : Int)).toNat)))), (27, .int .i64 (gi x35 (((x35.length : Nat) : Int) - (1 : Int)))), (28, .tuple #[.int .i64 r58, .int .i64 r59]), (20, .tuple #[.int .i64 r58, .int .i64 r59]), (29, .int .i64 r58), (30, .int .i64 r59), (9, .pointer (some ⟨g66_11, 0, none⟩))] from by
            show [(21, vals 0), (22, vals 1), (23, vals 2), (24, vals 3), (25, vals 4), (26, vals 5), (27, vals 6), (28, vals 7), (20, vals 8), (29, vals 9), (30, vals 10), (9, vals 11)] = _
            rw [hv0, hv1, hv2, hv3, hv4, hv5, hv6, hv7, hv8, hv9, hv10, hv11]]
          refine WA.step [12] (by decide +kernel) rfl ?_
          intro iQ hQ
          simp only [List.mem_cons, List.not_mem_nil, or_false] at hQ
          obtain rfl := hQ
          refine ⟨_, rfl, ?_⟩
          refine SL.store (cs' := [.int .i64 r58]) 0 0 hS rfl Try.el3 rfl rfl rfl (of_ble rfl) rfl ?_
          intro w72 hS
          refine WL.done ?_
          refine WA.step [13] (by decide +kernel) rfl ?_
          intro iQ hQ
          simp only [List.mem_cons, List.not_mem_nil, or_false] at hQ
          obtain rfl := hQ
          refine ⟨_, rfl, ?_⟩
          refine WL.assign rfl rfl ?_
          refine WL.done ?_
          refine WA.done (by decide +kernel) ?_
          change St _ _ _ _ [.row 3 1 (some ⟨g66_11, 0, none⟩) 1 1 [.int .i64 r58], .row 3 1 A36 x35.length k37 (is x35), .row 3 1 A23_2 x22.length k24_2 (is x22), .row 22 1 (some ⟨g17, 0, none⟩) 1 1 [.slice A23_2 x22.length k24_2], .row 22 1 (some ⟨g15, 0, none⟩) 1 1 [.slice none 0 0], .row 22 1 (some ⟨g13, 0, none⟩) 1 1 [.slice A36 x35.length k37], .row 26 1 (some ⟨g11, 0, none⟩) 1 1 [.pointer (some ag)]] at hS
          exact ⟨(r59, r58, g66_11), ⟨rfl, rfl, rfl, rfl, rfl, rfl, trivial⟩, rfl, hv, hS⟩
        · intro vals w70 hT hVs hAp hCp q_ hq_
          have hS := hS.grow hT
          obtain rfl : q_ = 3 := hq_.trans (by decide +kernel)
          have hv0 : vals 0 = _ := hVs 0 (by decide) (by decide)
          have hv1 : vals 1 = _ := hVs 1 (by decide) (by decide)
          have hv2 : vals 2 = _ := hVs 2 (by decide) (by decide)
          have hv3 : vals 3 = _ := hVs 3 (by decide) (by decide)
          have hv4 : vals 4 = _ := hVs 4 (by decide) (by decide)
          have hv5 : vals 5 = _ := hVs 5 (by decide) (by decide)
          have hv6 : vals 6 = _ := hVs 6 (by decide) (by decide)
          have hv7 : vals 7 = _ := hVs 7 (by decide) (by decide)
          have hv8 : vals 8 = _ := hVs 8 (by decide) (by decide)
          have hv9 : vals 9 = _ := hVs 9 (by decide) (by decide)
          obtain ⟨g66_11, hv11, hO68_11, hN69_11⟩ := hVs 11 (by decide) (by decide)
          have hS := St.addOwn [] hS0 hS hO68_11 hN69_11 (fun s hs => by cases hs)
          change St _ _ _ _ [.row 3 1 (some ⟨g66_11, 0, none⟩) 1 1 [.int .i64 (0 : Int)], .row 3 1 A36 x35.length k37 (is x35), .row 3 1 A23_2 x22.length k24_2 (is x22), .row 22 1 (some ⟨g17, 0, none⟩) 1 1 [.slice A23_2 x22.length k24_2], .row 22 1 (some ⟨g15, 0, none⟩) 1 1 [.slice none 0 0], .row 22 1 (some ⟨g13, 0, none⟩) 1 1 [.slice A36 x35.length k37], .row 26 1 (some ⟨g11, 0, none⟩) 1 1 [.pointer (some ag)]] at hS
          rw [show (List.filterMap (fun i => if i = 10 then none else Option.map (fun t => (t, vals i)) (dstAt _ i)) (List.range _)) = [(21, .pointer (some ag)), (22, .slice A36 x35.length k37), (23, .slice A36 x35.length k37), (24, .int .i64 ((x35.length : Nat) : Int)), (25, .int .i64 (((x35.length : Nat) : Int) - (1 : Int))), (26, .pointer (some ((adOf A36).add ((((x35.length : Nat) : Int) - (1 : Int)).toNat)))), (27, .int .i64 (gi x35 (((x35.length : Nat) : Int) - (1 : Int)))), (28, .tuple #[.int .i64 r58, .int .i64 r59]), (20, .tuple #[.int .i64 r58, .int .i64 r59]), (29, .int .i64 r58), (9, .pointer (some ⟨g66_11, 0, none⟩))] from by
            show [(21, vals 0), (22, vals 1), (23, vals 2), (24, vals 3), (25, vals 4), (26, vals 5), (27, vals 6), (28, vals 7), (20, vals 8), (29, vals 9), (9, vals 11)] = _
            rw [hv0, hv1, hv2, hv3, hv4, hv5, hv6, hv7, hv8, hv9, hv11]]
          refine WA.step [10, 12] (by decide +kernel) rfl ?_
          intro iQ hQ
          simp only [List.mem_cons, List.not_mem_nil, or_false] at hQ
          rcases hQ with rfl | rfl
          · refine ⟨_, rfl, ?_⟩
            refine WL.extract rfl rfl rfl ?_
            refine WL.done ?_
            refine WA.step [12] (by decide +kernel) rfl ?_
            intro iQ hQ
            simp only [List.mem_cons, List.not_mem_nil, or_false] at hQ
            obtain rfl := hQ
            refine ⟨_, rfl, ?_⟩
            refine SL.store (cs' := [.int .i64 r58]) 0 0 hS rfl Try.el3 rfl rfl rfl (of_ble rfl) rfl ?_
            intro w72 hS
            refine WL.done ?_
            refine WA.step [13] (by decide +kernel) rfl ?_
            intro iQ hQ
            simp only [List.mem_cons, List.not_mem_nil, or_false] at hQ
            obtain rfl := hQ
            refine ⟨_, rfl, ?_⟩
            refine WL.assign rfl rfl ?_
            refine WL.done ?_
            refine WA.done (by decide +kernel) ?_
            change St _ _ _ _ [.row 3 1 (some ⟨g66_11, 0, none⟩) 1 1 [.int .i64 r58], .row 3 1 A36 x35.length k37 (is x35), .row 3 1 A23_2 x22.length k24_2 (is x22), .row 22 1 (some ⟨g17, 0, none⟩) 1 1 [.slice A23_2 x22.length k24_2], .row 22 1 (some ⟨g15, 0, none⟩) 1 1 [.slice none 0 0], .row 22 1 (some ⟨g13, 0, none⟩) 1 1 [.slice A36 x35.length k37], .row 26 1 (some ⟨g11, 0, none⟩) 1 1 [.pointer (some ag)]] at hS
            exact ⟨(r59, r58, g66_11), ⟨rfl, rfl, rfl, rfl, rfl, rfl, trivial⟩, rfl, hv, hS⟩
          · refine ⟨_, rfl, ?_⟩
            refine SL.store (cs' := [.int .i64 r58]) 0 0 hS rfl Try.el3 rfl rfl rfl (of_ble rfl) rfl ?_
            intro w72 hS
            refine WL.done ?_
            refine WA.step [10] (by decide +kernel) rfl ?_
            intro iQ hQ
            simp only [List.mem_cons, List.not_mem_nil, or_false] at hQ
            obtain rfl := hQ
            refine ⟨_, rfl, ?_⟩
            refine WL.extract rfl rfl rfl ?_
            refine WL.done ?_
            refine WA.step [13] (by decide +kernel) rfl ?_
            intro iQ hQ
            simp only [List.mem_cons, List.not_mem_nil, or_false] at hQ
            obtain rfl := hQ
            refine ⟨_, rfl, ?_⟩
            refine WL.assign rfl rfl ?_
            refine WL.done ?_
            refine WA.done (by decide +kernel) ?_
            change St _ _ _ _ [.row 3 1 (some ⟨g66_11, 0, none⟩) 1 1 [.int .i64 r58], .row 3 1 A36 x35.length k37 (is x35), .row 3 1 A23_2 x22.length k24_2 (is x22), .row 22 1 (some ⟨g17, 0, none⟩) 1 1 [.slice A23_2 x22.length k24_2], .row 22 1 (some ⟨g15, 0, none⟩) 1 1 [.slice none 0 0], .row 22 1 (some ⟨g13, 0, none⟩) 1 1 [.slice A36 x35.length k37], .row 26 1 (some ⟨g11, 0, none⟩) 1 1 [.pointer (some ag)]] at hS
            exact ⟨(r59, r58, g66_11), ⟨rfl, rfl, rfl, rfl, rfl, rfl, trivial⟩, rfl, hv, hS⟩
      · rintro ⟨z44, z46, g45⟩ w73 ⟨hv, hS⟩
        have hv := hk149 z44 z46 hv
        refine W.seq ?_
        refine W.region ?_
        refine WL.load Try.underlying22 rfl rfl (Own.vcells (hS.own (i := 3) rfl) 0 _ rfl) rfl ?_
        refine WL.len Try.underlying22 rfl rfl ?_
        refine WL.load Try.underlying22 rfl rfl (Own.vcells (hS.own (i := 5) rfl) 0 _ rfl) rfl ?_
        refine WL.len Try.underlying22 rfl rfl ?_
        obtain ⟨o74, hv⟩ := hv
        refine WL.sub (r := (((x22.length : Nat) : Int) - ((x35.length : Nat) : Int))) rfl rfl (wr o74) rfl ?_
        obtain ⟨o75, hv⟩ := hv
        refine WL.add (r := ((((x22.length : Nat) : Int) - ((x35.length : Nat) : Int)) + (1 : Int))) rfl rfl (wr o75) rfl ?_
        refine WL.max2 (r := (max (0 : Int) ((((x22.length : Nat) : Int) - ((x35.length : Nat) : Int)) + (1 : Int)))) rfl rfl rfl rfl ?_
        obtain ⟨o76, hv⟩ := hv
        refine SL.make (J := (max (0 : Int) ((((x22.length : Nat) : Int) - ((x35.length : Nat) : Int)) + (1 : Int)))) hS Try.underlying22 Try.el3 rfl rfl o76 (made_is _) rfl ?_
        intro A77 w78 hS
        refine SL.store (cs' := [.slice A77 ((max (0 : Int) ((((x22.length : Nat) : Int) - ((x35.length : Nat) : Int)) + (1 : Int))).toNat) ((max (0 : Int) ((((x22.length : Nat) : Int) - ((x35.length : Nat) : Int)) + (1 : Int))).toNat)]) 5 0 hS rfl Try.el22 rfl rfl rfl (of_ble rfl) rfl ?_
        intro w80 hS
        refine WL.done ?_
        refine W.seq ?_
        refine W.seq ?_
        refine W.region ?_
        refine WL.load Try.underlying22 rfl rfl (Own.vcells (hS.own (i := 5) rfl) 0 _ rfl) rfl ?_
        refine SL.call hS (ok_backward (hS.rd (i := 0) rfl) hv) Try.func65 rfl Try.nm65 rfl rfl ?_
        rintro _ _ w81 ⟨g82, rfl, rfl, hv⟩ hGw81 hS
        change St _ _ _ _ [.row 22 1 (some ⟨g82, 0, none⟩) 1 1 [.slice A77 ((max (0 : Int) ((((x22.length : Nat) : Int) - ((x35.length : Nat) : Int)) + (1 : Int))).toNat) ((max (0 : Int) ((((x22.length : Nat) : Int) - ((x35.length : Nat) : Int)) + (1 : Int))).toNat)], .row 3 1 A77 ((max (0 : Int) ((((x22.length : Nat) : Int) - ((x35.length : Nat) : Int)) + (1 : Int))).toNat) ((max (0 : Int) ((((x22.length : Nat) : Int) - ((x35.length : Nat) : Int)) + (1 : Int))).toNat) (is (List.replicate (max (0 : Int) ((((x22.length : Nat) : Int) - ((x35.length : Nat) : Int)) + (1 : Int))).toNat (0 : Int))), .row 3 1 (some ⟨g45, 0, none⟩) 1 1 [.int .i64 z46], .row 3 1 A36 x35.length k37 (is x35), .row 3 1 A23_2 x22.length k24_2 (is x22), .row 22 1 (some ⟨g17, 0, none⟩) 1 1 [.slice A23_2 x22.length k24_2], .row 22 1 (some ⟨g15, 0, none⟩) 1 1 [.slice A77 ((max (0 : Int) ((((x22.length : Nat) : Int) - ((x35.length : Nat) : Int)) + (1 : Int))).toNat) ((max (0 : Int) ((((x22.length : Nat) : Int) - ((x35.length : Nat) : Int)) + (1 : Int))).toNat)], .row 22 1 (some ⟨g13, 0, none⟩) 1 1 [.slice A36 x35.length k37], .row 26 1 (some ⟨g11, 0, none⟩) 1 1 [.pointer (some ag)]] at hS
        refine WL.done ?_
        refine W.block ?_
        obtain ⟨I90, hv, hk147, hd148⟩ := hv
        change St _ _ _ _ [.row 22 1 (some ⟨g82, 0, none⟩) 1 1 [.slice A77 ((max (0 : Int) ((((x22.length : Nat) : Int) - ((x35.length : Nat) : Int)) + (1 : Int))).toNat) ((max (0 : Int) ((((x22.length : Nat) : Int) - ((x35.length : Nat) : Int)) + (1 : Int))).toNat)], .row 3 1 A77 ((max (0 : Int) ((((x22.length : Nat) : Int) - ((x35.length : Nat) : Int)) + (1 : Int))).toNat) ((max (0 : Int) ((((x22.length : Nat) : Int) - ((x35.length : Nat) : Int)) + (1 : Int))).toNat) (is (List.replicate (max (0 : Int) ((((x22.length : Nat) : Int) - ((x35.length : Nat) : Int)) + (1 : Int))).toNat (0 : Int))), .row 3 1 (some ⟨g45, 0, none⟩) 1 1 [.int .i64 z46], .row 3 1 A36 x35.length k37 (is x35), .row 3 1 A23_2 x22.length k24_2 (is x22), .row 22 1 (some ⟨g17, 0, none⟩) 1 1 [.slice A23_2 x22.length k24_2], .row 22 1 (some ⟨g15, 0, none⟩) 1 1 [.slice A77 ((max (0 : Int) ((((x22.length : Nat) : Int) - ((x35.length : Nat) : Int)) + (1 : Int))).toNat) ((max (0 : Int) ((((x22.length : Nat) : Int) - ((x35.length : Nat) : Int)) + (1 : Int))).toNat)], .row 22 1 (some ⟨g13, 0, none⟩) 1 1 [.slice A36 x35.length k37], .row 26 1 (some ⟨g11, 0, none⟩) 1 1 [.pointer (some ag)]] at hS
        refine SR.range (σ := List Int × List Int) (fun i q => match q with | (x88, x89) => I90 i x88 x89) (fun q => match q with | (x88, x89) => [.row 22 1 (some ⟨g82, 0, none⟩) 1 1 [.slice A77 ((max (0 : Int) ((((x22.length : Nat) : Int) - ((x35.length : Nat) : Int)) + (1 : Int))).toNat) ((max (0 : Int) ((((x22.length : Nat) : Int) - ((x35.length : Nat) : Int)) + (1 : Int))).toNat)], .row 3 1 A77 ((max (0 : Int) ((((x22.length : Nat) : Int) - ((x35.length : Nat) : Int)) + (1 : Int))).toNat) ((max (0 : Int) ((((x22.length : Nat) : Int) - ((x35.length : Nat) : Int)) + (1 : Int))).toNat) (is x88), .row 3 1 (some ⟨g45, 0, none⟩) 1 1 [.int .i64 z46], .row 3 1 A36 x35.length k37 (is x35), .row 3 1 A23_2 x22.length k24_2 (is x89), .row 22 1 (some ⟨g17, 0, none⟩) 1 1 [.slice A23_2 x22.length k24_2], .row 22 1 (some ⟨g15, 0, none⟩) 1 1 [.slice A77 ((max (0 : Int) ((((x22.length : Nat) : Int) - ((x35.length : Nat) : Int)) + (1 : Int))).toNat) ((max (0 : Int) ((((x22.length : Nat) : Int) - ((x35.length : Nat) : Int)) + (1 : Int))).toNat)], .row 22 1 (some ⟨g13, 0, none⟩) 1 1 [.slice A36 x35.length k37], .row 26 1 (some ⟨g11, 0, none⟩) 1 1 [.pointer (some ag)]]) (fun _ _ => False) (fun vs => [(3, .pointer (some ⟨g11, 0, none⟩)), (5, .pointer (some ⟨g13, 0, none⟩)), (6, .pointer (some ⟨g15, 0, none⟩)), (7, .pointer (some ⟨g17, 0, none⟩)), (8, .int .i64 z44), (9, .pointer (some ⟨g45, 0, none⟩)), (10, vs.getD 0 undef)]) (List.replicate (max (0 : Int) ((((x22.length : Nat) : Int) - ((x35.length : Nat) : Int)) + (1 : Int))).toNat (0 : Int), x22) hS hv (fun q => by obtain ⟨x88, x89⟩ := q; exact trivial) rfl Try.func97 rfl Try.nm97 (backward_seq (A := A77) (m := ((max (0 : Int) ((((x22.length : Nat) : Int) - ((x35.length : Nat) : Int)) + (1 : Int))).toNat)) (c := ((max (0 : Int) ((((x22.length : Nat) : Int) - ((x35.length : Nat) : Int)) + (1 : Int))).toNat)) (Rd.m64 (hS.rd (i := 1) rfl))) (Below.refl _ _) (fun _ _ _ h => by obtain ⟨_, h, _⟩ := h; rw [h]; rfl) (fun i x => bw_stay) (by decide) (fun _ q _ _ hS => by obtain ⟨x88, x89⟩ := q; exact ⟨Own.vcells (hS.own (i := 0) rfl) 0 _ rfl, _, _, (hS.rd (i := 1) rfl)⟩) ?_ ?_ ?_ ?_
        · intro lq vsq W1q hlq
          match vsq, hlq with
          | [a0, a1], _ =>
            refine W.region ?_
            refine WL.assign rfl rfl ?_
            refine WL.done ?_
            exact ⟨rfl, rfl, ⟨rfl, rfl, rfl, rfl, rfl, rfl, rfl, trivial⟩⟩
        · rintro lq i83 _ ⟨x88, x89⟩ w91 hi ⟨vb, rfl, hcell⟩ hI hS
          have hvb : vb = (gi x88 (((max (0 : Int) ((((x22.length : Nat) : Int) - ((x35.length : Nat) : Int)) + (1 : Int))).toNat - 1 - i83 : Nat) : Int)) := bw_val (hS.rd (i := 1) rfl) (by omega) hcell
          subst hvb
          have hv := hk147 i83 hi x88 x89 hI
          refine W.block ?_
          refine W.seq ?_
          obtain ⟨o100, hv⟩ := hv
          obtain ⟨o102, hv⟩ := hv
          obtain ⟨o104, hv⟩ := hv
          obtain ⟨r108, o110, hv⟩ := hv
          have hS0 := hS
          refine W.drawX 13 (fun _ => false) (fun _ => none) [⟨[], [6], false⟩, ⟨[], [10], true⟩, ⟨[], [3], false⟩, ⟨[], [7], false⟩, ⟨[], [10], true⟩, ⟨[], [5], false⟩, ⟨[5], [], true⟩, ⟨[4, 6], [], true⟩, ⟨[7], [], true⟩, ⟨[3, 8], [], true⟩, ⟨[9], [], false⟩, ⟨[], [9], false⟩, ⟨[2, 10, 11], [], false⟩] [[(6, .pointer (some ⟨g15, 0, none⟩))], [(10, .int .i64 (((max (0 : Int) ((((x22.length : Nat) : Int) - ((x35.length : Nat) : Int)) + (1 : Int))).toNat - 1 - i83 : Nat) : Int))], [(3, .pointer (some ⟨g11, 0, none⟩))], [(7, .pointer (some ⟨g17, 0, none⟩))], [(10, .int .i64 (((max (0 : Int) ((((x22.length : Nat) : Int) - ((x35.length : Nat) : Int)) + (1 : Int))).toNat - 1 - i83 : Nat) : Int))], [(5, .pointer (some ⟨g13, 0, none⟩))], [], [], [], [], [], [(9, .pointer (some ⟨g45, 0, none⟩))], []] (fun iQ => [fun v _ => v = .slice A77 ((max (0 : Int) ((((x22.length : Nat) : Int) - ((x35.length : Nat) : Int)) + (1 : Int))).toNat) ((max (0 : Int) ((((x22.length : Nat) : Int) - ((x35.length : Nat) : Int)) + (1 : Int))).toNat), fun v _ => v = .int .i64 (((max (0 : Int) ((((x22.length : Nat) : Int) - ((x35.length : Nat) : Int)) + (1 : Int))).toNat - 1 - i83 : Nat) : Int), fun v _ => v = .pointer (some ag), fun v _ => v = .slice A23_2 x22.length k24_2, fun v _ => v = .int .i64 (((max (0 : Int) ((((x22.length : Nat) : Int) - ((x35.length : Nat) : Int)) + (1 : Int))).toNat - 1 - i83 : Nat) : Int), fun v _ => v = .slice A36 x35.length k37, fun v _ => v = .int .i64 ((x35.length : Nat) : Int), fun v _ => v = .int .i64 ((((max (0 : Int) ((((x22.length : Nat) : Int) - ((x35.length : Nat) : Int)) + (1 : Int))).toNat - 1 - i83 : Nat) : Int) + ((x35.length : Nat) : Int)), fun v _ => v = .int .i64 (((((max (0 : Int) ((((x22.length : Nat) : Int) - ((x35.length : Nat) : Int)) + (1 : Int))).toNat - 1 - i83 : Nat) : Int) + ((x35.length : Nat) : Int)) - (1 : Int)), fun v _ => v = .pointer (some ((adOf A23_2).add ((((((max (0 : Int) ((((x22.length : Nat) : Int) - ((x35.length : Nat) : Int)) + (1 : Int))).toNat - 1 - i83 : Nat) : Int) + ((x35.length : Nat) : Int)) - (1 : Int)).toNat))), fun v _ => v = .int .i64 (gi x89 (((((max (0 : Int) ((((x22.length : Nat) : Int) - ((x35.length : Nat) : Int)) + (1 : Int))).toNat - 1 - i83 : Nat) : Int) + ((x35.length : Nat) : Int)) - (1 : Int))), fun v _ => v = .int .i64 z46, fun v _ => v = .int .i64 r108].getD iQ (fun _ _ => True)) Try.mixed (by kernel_rfl) ?_ (by kernel_rfl) ?_ ?_
          · refine Vs_monoT _ ?_
            intro VQ hVQ vQ wQ1 wQ2 hQ1 hQ2
            simp only [List.mem_cons, List.not_mem_nil, or_false] at hVQ
            rcases hVQ with rfl | rfl | rfl | rfl | rfl | rfl | rfl | rfl | rfl | rfl | rfl | rfl | rfl
            · exact hQ1
            · exact hQ1
            · exact hQ1
            · exact hQ1
            · exact hQ1
            · exact hQ1
            · exact hQ1
            · exact hQ1
            · exact hQ1
            · exact hQ1
            · exact hQ1
            · exact hQ1
            · exact hQ1
          · refine ⟨⟨rfl, ⟨rfl, trivial⟩, ?_⟩, ⟨rfl, ⟨rfl, trivial⟩, ?_⟩, ⟨rfl, ⟨rfl, trivial⟩, ?_⟩, ⟨rfl, ⟨rfl, trivial⟩, ?_⟩, ⟨rfl, ⟨rfl, trivial⟩, ?_⟩, ⟨rfl, ⟨rfl, trivial⟩, ?_⟩, ⟨rfl, trivial, ?_⟩, ⟨rfl, trivial, ?_⟩, ⟨rfl, trivial, ?_⟩, ⟨rfl, trivial, ?_⟩, ⟨rfl, trivial, ?_⟩, ⟨rfl, ⟨rfl, trivial⟩, ?_⟩, ⟨rfl, trivial, ?_⟩, trivial⟩
            · intro w92 hE
              have hE := hE rfl
              have hS := hS.grow hE
              intro RR
              refine WL.load Try.underlying22 rfl rfl (Own.vcells (hS.own (i := 6) rfl) 0 _ rfl) rfl ?_
              exact WL.done ⟨_, rfl, ext_refl _, rfl, (fun h => absurd h (by decide)), (fun j h => by cases h)⟩
            · intro w93 hE
              intro RR
              refine WL.move rfl rfl ?_
              exact WL.done ⟨_, rfl, rfl, rfl, (fun h => absurd h (by decide)), (fun j h => by cases h)⟩
            · intro w94 hE
              have hE := hE rfl
              have hS := hS.grow hE
              intro RR
              refine WL.load Try.underlying26 rfl rfl (Own.vcells (hS.own (i := 8) rfl) 0 _ rfl) rfl ?_
              exact WL.done ⟨_, rfl, ext_refl _, rfl, (fun h => absurd h (by decide)), (fun j h => by cases h)⟩
            · intro w95 hE
              have hE := hE rfl
              have hS := hS.grow hE
              intro RR
              refine WL.load Try.underlying22 rfl rfl (Own.vcells (hS.own (i := 5) rfl) 0 _ rfl) rfl ?_
              exact WL.done ⟨_, rfl, ext_refl _, rfl, (fun h => absurd h (by decide)), (fun j h => by cases h)⟩
            · intro w96 hE
              intro RR
              refine WL.move rfl rfl ?_
              exact WL.done ⟨_, rfl, rfl, rfl, (fun h => absurd h (by decide)), (fun j h => by cases h)⟩
            · intro w97 hE
              have hE := hE rfl
              have hS := hS.grow hE
              intro RR
              refine WL.load Try.underlying22 rfl rfl (Own.vcells (hS.own (i := 7) rfl) 0 _ rfl) rfl ?_
              exact WL.done ⟨_, rfl, ext_refl _, rfl, (fun h => absurd h (by decide)), (fun j h => by cases h)⟩
            · intro w98 hE
              rintro _ rfl
              intro RR
              refine WL.len Try.underlying22 rfl rfl ?_
              exact WL.done ⟨_, rfl, rfl, rfl, (fun h => absurd h (by decide)), (fun j h => by cases h)⟩
            · intro w99 hE
              rintro _ rfl
              rintro _ rfl
              intro RR
              refine WL.add (r := ((((max (0 : Int) ((((x22.length : Nat) : Int) - ((x35.length : Nat) : Int)) + (1 : Int))).toNat - 1 - i83 : Nat) : Int) + ((x35.length : Nat) : Int))) rfl rfl (wr o100) rfl ?_
              exact WL.done ⟨_, rfl, rfl, rfl, (fun h => absurd h (by decide)), (fun j h => by cases h)⟩
            · intro w101 hE
              rintro _ rfl
              intro RR
              refine WL.sub (r := (((((max (0 : Int) ((((x22.length : Nat) : Int) - ((x35.length : Nat) : Int)) + (1 : Int))).toNat - 1 - i83 : Nat) : Int) + ((x35.length : Nat) : Int)) - (1 : Int))) rfl rfl (wr o102) rfl ?_
              exact WL.done ⟨_, rfl, rfl, rfl, (fun h => absurd h (by decide)), (fun j h => by cases h)⟩
            · intro w103 hE
              rintro _ rfl
              rintro _ rfl
              intro RR
              refine SL.index Try.underlying22 Try.el3 (hS.rd (i := 4) rfl) rfl rfl o104 rfl ?_
              exact WL.done ⟨_, rfl, rfl, rfl, (fun h => absurd h (by decide)), (fun j h => by cases h)⟩
            · intro w105 hE
              have hE := hE rfl
              have hS := hS.grow hE
              rintro _ rfl
              intro RR
              refine WL.load Try.underlying3 rfl rfl (Rd.gi (hS.rd (i := 4) rfl) o104) rfl ?_
              exact WL.done ⟨_, rfl, ext_refl _, rfl, (fun h => absurd h (by decide)), (fun j h => by cases h)⟩
            · intro w106 hE
              have hE := hE rfl
              have hS := hS.grow hE
              intro RR
              refine WL.load Try.underlying3 rfl rfl (Own.vcells (hS.own (i := 2) rfl) 0 _ rfl) rfl ?_
              exact WL.done ⟨_, rfl, ext_refl _, rfl, (fun h => absurd h (by decide)), (fun j h => by cases h)⟩
            · intro w107 hE
              have hE := hE rfl
              have hS := hS.grow hE
              rintro _ rfl
              rintro _ rfl
              rintro _ rfl
              intro RR
              refine WL.call Try.func74 rfl Try.nm74 rfl rfl (calls_un (ok_Mul (GFR.ext (GFR.norm hgg) hS.ext) o110)) ?_
              rintro _ w109 ⟨_, hGw109, hRww109, hNww109, r108q, rfl, rfl, he⟩
              subst he
              exact WL.done ⟨_, rfl, hGw109, rfl, (fun h => absurd h (by decide)), (fun j h => by cases h)⟩
          · intro vals w111 hT hVs hAp hCp
            have hS := hS.grow hT
            have hv0 : vals 0 = _ := hVs 0 (by decide)
            have hv1 : vals 1 = _ := hVs 1 (by decide)
            have hv2 : vals 2 = _ := hVs 2 (by decide)
            have hv3 : vals 3 = _ := hVs 3 (by decide)
            have hv4 : vals 4 = _ := hVs 4 (by decide)
            have hv5 : vals 5 = _ := hVs 5 (by decide)
            have hv6 : vals 6 = _ := hVs 6 (by decide)
            have hv7 : vals 7 = _ := hVs 7 (by decide)
            have hv8 : vals 8 = _ := hVs 8 (by decide)
            have hv9 : vals 9 = _ := hVs 9 (by decide)
            have hv10 : vals 10 = _ := hVs 10 (by decide)
            have hv11 : vals 11 = _ := hVs 11 (by decide)
            have hv12 : vals 12 = _ := hVs 12 (by decide)
            rw [show (List.filterMap (fun i => Option.map (fun t => (t, vals i)) (dstAt _ i)) (List.range _)) = [(43, .slice A77 ((max (0 : Int) ((((x22.length : Nat) : Int) - ((x35.length : Nat) : Int)) + (1 : Int))).toNat) ((max (0 : Int) ((((x22.length : Nat) : Int) - ((x35.length : Nat) : Int)) + (1 : Int))).toNat)), (44, .int .i64 (((max (0 : Int) ((((x22.length : Nat) : Int) - ((x35.length : Nat) : Int)) + (1 : Int))).toNat - 1 - i83 : Nat) : Int)), (45, .pointer (some ag)), (46, .slice A23_2 x22.length k24_2), (47, .int .i64 (((max (0 : Int) ((((x22.length : Nat) : Int) - ((x35.length : Nat) : Int)) + (1 : Int))).toNat - 1 - i83 : Nat) : Int)), (48, .slice A36 x35.length k37), (49, .int .i64 ((x35.length : Nat) : Int)), (50, .int .i64 ((((max (0 : Int) ((((x22.length : Nat) : Int) - ((x35.length : Nat) : Int)) + (1 : Int))).toNat - 1 - i83 : Nat) : Int) + ((x35.length : Nat) : Int))), (51, .int .i64 (((((max (0 : Int) ((((x22.length : Nat) : Int) - ((x35.length : Nat) : Int)) + (1 : Int))).toNat - 1 - i83 : Nat) : Int) + ((x35.length : Nat) : Int)) - (1 : Int))), (52, .pointer (some ((adOf A23_2).add ((((((max (0 : Int) ((((x22.length : Nat) : Int) - ((x35.length : Nat) : Int)) + (1 : Int))).toNat - 1 - i83 : Nat) : Int) + ((x35.length : Nat) : Int)) - (1 : Int)).toNat)))), (53, .int .i64 (gi x89 (((((max (0 : Int) ((((x22.length : Nat) : Int) - ((x35.length : Nat) : Int)) + (1 : Int))).toNat - 1 - i83 : Nat) : Int) + ((x35.length : Nat) : Int)) - (1 : Int)))), (54, .int .i64 z46), (55, .int .i64 r108)] from by
              show [(43, vals 0), (44, vals 1), (45, vals 2), (46, vals 3), (47, vals 4), (48, vals 5), (49, vals 6), (50, vals 7), (51, vals 8), (52, vals 9), (53, vals 10), (54, vals 11), (55, vals 12)] = _
              rw [hv0, hv1, hv2, hv3, hv4, hv5, hv6, hv7, hv8, hv9, hv10, hv11, hv12]]
            refine WA.step [13] (by decide +kernel) rfl ?_
            intro iQ hQ
            simp only [List.mem_cons, List.not_mem_nil, or_false] at hQ
            obtain rfl := hQ
            refine ⟨_, rfl, ?_⟩
            obtain ⟨o112, hv⟩ := hv
            refine SL.index Try.underlying22 Try.el3 (hS.rd (i := 1) rfl) rfl rfl o112 rfl ?_
            refine WL.done ?_
            refine WA.step [14] (by decide +kernel) rfl ?_
            intro iQ hQ
            simp only [List.mem_cons, List.not_mem_nil, or_false] at hQ
            obtain rfl := hQ
            refine ⟨_, rfl, ?_⟩
            refine SL.store (cs' := is (si x88 (((max (0 : Int) ((((x22.length : Nat) : Int) - ((x35.length : Nat) : Int)) + (1 : Int))).toNat - 1 - i83 : Nat) : Int) r108)) 1 (((max (0 : Int) ((((x22.length : Nat) : Int) - ((x35.length : Nat) : Int)) + (1 : Int))).toNat - 1 - i83 : Nat) : Int).toNat hS rfl Try.el3 rfl rfl rfl (is_lt (hS.rd (i := 1) rfl) o112) (is_set _ _ _) ?_
            intro w113 hS
            refine WL.done ?_
            refine WA.done (by decide +kernel) ?_
            obtain ⟨o118, hv⟩ := hv
            obtain ⟨o123, hv⟩ := hv
            obtain ⟨r126, o128, hv⟩ := hv
            have hS0 := hS
            refine W.drawX 11 (fun _ => false) (fun _ => none) [⟨[], [3], false⟩, ⟨[], [7], false⟩, ⟨[], [10], true⟩, ⟨[1, 2], [], true⟩, ⟨[], [3], false⟩, ⟨[], [6], false⟩, ⟨[], [10], true⟩, ⟨[5, 6], [], true⟩, ⟨[7], [], false⟩, ⟨[4, 8], [], false⟩, ⟨[], [5], false⟩] [[(3, .pointer (some ⟨g11, 0, none⟩))], [(7, .pointer (some ⟨g17, 0, none⟩))], [(10, .int .i64 (((max (0 : Int) ((((x22.length : Nat) : Int) - ((x35.length : Nat) : Int)) + (1 : Int))).toNat - 1 - i83 : Nat) : Int))], [], [(3, .pointer (some ⟨g11, 0, none⟩))], [(6, .pointer (some ⟨g15, 0, none⟩))], [(10, .int .i64 (((max (0 : Int) ((((x22.length : Nat) : Int) - ((x35.length : Nat) : Int)) + (1 : Int))).toNat - 1 - i83 : Nat) : Int))], [], [], [], [(5, .pointer (some ⟨g13, 0, none⟩))]] (fun iQ => [fun v _ => v = .pointer (some ag), fun v _ => v = .slice A23_2 x22.length k24_2, fun v _ => v = .int .i64 (((max (0 : Int) ((((x22.length : Nat) : Int) - ((x35.length : Nat) : Int)) + (1 : Int))).toNat - 1 - i83 : Nat) : Int), fun v _ => v = .slice (if k24_2 = (((max (0 : Int) ((((x22.length : Nat) : Int) - ((x35.length : Nat) : Int)) + (1 : Int))).toNat - 1 - i83 : Nat) : Int).toNat then A23_2 else A23_2.map (·.add ((((max (0 : Int) ((((x22.length : Nat) : Int) - ((x35.length : Nat) : Int)) + (1 : Int))).toNat - 1 - i83 : Nat) : Int).toNat * 1))) (x22.length - (((max (0 : Int) ((((x22.length : Nat) : Int) - ((x35.length : Nat) : Int)) + (1 : Int))).toNat - 1 - i83 : Nat) : Int).toNat) (k24_2 - (((max (0 : Int) ((((x22.length : Nat) : Int) - ((x35.length : Nat) : Int)) + (1 : Int))).toNat - 1 - i83 : Nat) : Int).toNat), fun v _ => v = .pointer (some ag), fun v _ => v = .slice A77 ((max (0 : Int) ((((x22.length : Nat) : Int) - ((x35.length : Nat) : Int)) + (1 : Int))).toNat) ((max (0 : Int) ((((x22.length : Nat) : Int) - ((x35.length : Nat) : Int)) + (1 : Int))).toNat), fun v _ => v = .int .i64 (((max (0 : Int) ((((x22.length : Nat) : Int) - ((x35.length : Nat) : Int)) + (1 : Int))).toNat - 1 - i83 : Nat) : Int), fun v _ => v = .pointer (some ((adOf A77).add ((((max (0 : Int) ((((x22.length : Nat) : Int) - ((x35.length : Nat) : Int)) + (1 : Int))).toNat - 1 - i83 : Nat) : Int).toNat))), fun v _ => v = .int .i64 (gi (si x88 (((max (0 : Int) ((((x22.length : Nat) : Int) - ((x35.length : Nat) : Int)) + (1 : Int))).toNat - 1 - i83 : Nat) : Int) r108) (((max (0 : Int) ((((x22.length : Nat) : Int) - ((x35.length : Nat) : Int)) + (1 : Int))).toNat - 1 - i83 : Nat) : Int)), fun v _ => v = .int .i64 r126, fun v _ => v = .slice A36 x35.length k37].getD iQ (fun _ _ => True)) Try.mixed (by kernel_rfl) ?_ (by kernel_rfl) ?_ ?_
            · refine Vs_monoT _ ?_
              intro VQ hVQ vQ wQ1 wQ2 hQ1 hQ2
              simp only [List.mem_cons, List.not_mem_nil, or_false] at hVQ
              rcases hVQ with rfl | rfl | rfl | rfl | rfl | rfl | rfl | rfl | rfl | rfl | rfl
              · exact hQ1
              · exact hQ1
              · exact hQ1
              · exact hQ1
              · exact hQ1
              · exact hQ1
              · exact hQ1
              · exact hQ1
              · exact hQ1
              · exact hQ1
              · exact hQ1
            · refine ⟨⟨rfl, ⟨rfl, trivial⟩, ?_⟩, ⟨rfl, ⟨rfl, trivial⟩, ?_⟩, ⟨rfl, ⟨rfl, trivial⟩, ?_⟩, ⟨rfl, trivial, ?_⟩, ⟨rfl, ⟨rfl, trivial⟩, ?_⟩, ⟨rfl, ⟨rfl, trivial⟩, ?_⟩, ⟨rfl, ⟨rfl, trivial⟩, ?_⟩, ⟨rfl, trivial, ?_⟩, ⟨rfl, trivial, ?_⟩, ⟨rfl, trivial, ?_⟩, ⟨rfl, ⟨rfl, trivial⟩, ?_⟩, trivial⟩
              · intro w114 hE
                have hE := hE rfl
                have hS := hS.grow hE
                intro RR
                refine WL.load Try.underlying26 rfl rfl (Own.vcells (hS.own (i := 8) rfl) 0 _ rfl) rfl ?_
                exact WL.done ⟨_, rfl, ext_refl _, rfl, (fun h => absurd h (by decide)), (fun j h => by cases h)⟩
              · intro w115 hE
                have hE := hE rfl
                have hS := hS.grow hE
                intro RR
                refine WL.load Try.underlying22 rfl rfl (Own.vcells (hS.own (i := 5) rfl) 0 _ rfl) rfl ?_
                exact WL.done ⟨_, rfl, ext_refl _, rfl, (fun h => absurd h (by decide)), (fun j h => by cases h)⟩
              · intro w116 hE
                intro RR
                refine WL.move rfl rfl ?_
                exact WL.done ⟨_, rfl, rfl, rfl, (fun h => absurd h (by decide)), (fun j h => by cases h)⟩
              · intro w117 hE
                rintro _ rfl
                rintro _ rfl
                intro RR
                refine SL.slFrom Try.underlying22 Try.el3 (hS.rd (i := 4) rfl) rfl rfl o118 rfl ?_
                exact WL.done ⟨_, rfl, rfl, rfl, (fun h => absurd h (by decide)), (fun j h => by cases h)⟩
              · intro w119 hE
                have hE := hE rfl
                have hS := hS.grow hE
                intro RR
                refine WL.load Try.underlying26 rfl rfl (Own.vcells (hS.own (i := 8) rfl) 0 _ rfl) rfl ?_
                exact WL.done ⟨_, rfl, ext_refl _, rfl, (fun h => absurd h (by decide)), (fun j h => by cases h)⟩
              · intro w120 hE
                have hE := hE rfl
                have hS := hS.grow hE
                intro RR
                refine WL.load Try.underlying22 rfl rfl (Own.vcells (hS.own (i := 6) rfl) 0 _ rfl) rfl ?_
                exact WL.done ⟨_, rfl, ext_refl _, rfl, (fun h => absurd h (by decide)), (fun j h => by cases h)⟩
              · intro w121 hE
                intro RR
                refine WL.move rfl rfl ?_
                exact WL.done ⟨_, rfl, rfl, rfl, (fun h => absurd h (by decide)), (fun j h => by cases h)⟩
              · intro w122 hE
                rintro _ rfl
                rintro _ rfl
                intro RR
                refine SL.index Try.underlying22 Try.el3 (hS.rd (i := 1) rfl) rfl rfl o123 rfl ?_
                exact WL.done ⟨_, rfl, rfl, rfl, (fun h => absurd h (by decide)), (fun j h => by cases h)⟩
              · intro w124 hE
                have hE := hE rfl
                have hS := hS.grow hE
                rintro _ rfl
                intro RR
                refine WL.load Try.underlying3 rfl rfl (Rd.gi (hS.rd (i := 1) rfl) o123) rfl ?_
                exact WL.done ⟨_, rfl, ext_refl _, rfl, (fun h => absurd h (by decide)), (fun j h => by cases h)⟩
              · intro w125 hE
                have hE := hE rfl
                have hS := hS.grow hE
                rintro _ rfl
                rintro _ rfl
                intro RR
                refine WL.call Try.func76 rfl Try.nm76 rfl rfl (calls_un (ok_Neg (GFR.ext (GFR.norm hgg) hS.ext) o128)) ?_
                rintro _ w127 ⟨_, hGw127, hRww127, hNww127, r126q, rfl, rfl, he⟩
                subst he
                exact WL.done ⟨_, rfl, hGw127, rfl, (fun h => absurd h (by decide)), (fun j h => by cases h)⟩
              · intro w129 hE
                have hE := hE rfl
                have hS := hS.grow hE
                intro RR
                refine WL.load Try.underlying22 rfl rfl (Own.vcells (hS.own (i := 7) rfl) 0 _ rfl) rfl ?_
                exact WL.done ⟨_, rfl, ext_refl _, rfl, (fun h => absurd h (by decide)), (fun j h => by cases h)⟩
            · intro vals w130 hT hVs hAp hCp
              have hS := hS.grow hT
              have hv0 : vals 0 = _ := hVs 0 (by decide)
              have hv1 : vals 1 = _ := hVs 1 (by decide)
              have hv2 : vals 2 = _ := hVs 2 (by decide)
              have hv3 : vals 3 = _ := hVs 3 (by decide)
              have hv4 : vals 4 = _ := hVs 4 (by decide)
              have hv5 : vals 5 = _ := hVs 5 (by decide)
              have hv6 : vals 6 = _ := hVs 6 (by decide)
              have hv7 : vals 7 = _ := hVs 7 (by decide)
              have hv8 : vals 8 = _ := hVs 8 (by decide)
              have hv9 : vals 9 = _ := hVs 9 (by decide)
              have hv10 : vals 10 = _ := hVs 10 (by decide)
              rw [show (List.filterMap (fun i => Option.map (fun t => (t, vals i)) (dstAt _ i)) (List.range _)) = [(57, .pointer (some ag)), (58, .slice A23_2 x22.length k24_2), (59, .int .i64 (((max (0 : Int) ((((x22.length : Nat) : Int) - ((x35.length : Nat) : Int)) + (1 : Int))).toNat - 1 - i83 : Nat) : Int)), (60, .slice (if k24_2 = (((max (0 : Int) ((((x22.length : Nat) : Int) - ((x35.length : Nat) : Int)) + (1 : Int))).toNat - 1 - i83 : Nat) : Int).toNat then A23_2 else A23_2.map (·.add ((((max (0 : Int) ((((x22.length : Nat) : Int) - ((x35.length : Nat) : Int)) + (1 : Int))).toNat - 1 - i83 : Nat) : Int).toNat * 1))) (x22.length - (((max (0 : Int) ((((x22.length : Nat) : Int) - ((x35.length : Nat) : Int)) + (1 : Int))).toNat - 1 - i83 : Nat) : Int).toNat) (k24_2 - (((max (0 : Int) ((((x22.length : Nat) : Int) - ((x35.length : Nat) : Int)) + (1 : Int))).toNat - 1 - i83 : Nat) : Int).toNat)), (61, .pointer (some ag)), (62, .slice A77 ((max (0 : Int) ((((x22.length : Nat) : Int) - ((x35.length : Nat) : Int)) + (1 : Int))).toNat) ((max (0 : Int) ((((x22.length : Nat) : Int) - ((x35.length : Nat) : Int)) + (1 : Int))).toNat)), (63, .int .i64 (((max (0 : Int) ((((x22.length : Nat) : Int) - ((x35.length : Nat) : Int)) + (1 : Int))).toNat - 1 - i83 : Nat) : Int)), (64, .pointer (some ((adOf A77).add ((((max (0 : Int) ((((x22.length : Nat) : Int) - ((x35.length : Nat) : Int)) + (1 : Int))).toNat - 1 - i83 : Nat) : Int).toNat)))), (65, .int .i64 (gi (si x88 (((max (0 : Int) ((((x22.length : Nat) : Int) - ((x35.length : Nat) : Int)) + (1 : Int))).toNat - 1 - i83 : Nat) : Int) r108) (((max (0 : Int) ((((x22.length : Nat) : Int) - ((x35.length : Nat) : Int)) + (1 : Int))).toNat - 1 - i83 : Nat) : Int))), (66, .int .i64 r126), (67, .slice A36 x35.length k37)] from by
                show [(57, vals 0), (58, vals 1), (59, vals 2), (60, vals 3), (61, vals 4), (62, vals 5), (63, vals 6), (64, vals 7), (65, vals 8), (66, vals 9), (67, vals 10)] = _
                rw [hv0, hv1, hv2, hv3, hv4, hv5, hv6, hv7, hv8, hv9, hv10]]
              refine WA.step [11] (by decide +kernel) rfl ?_
              intro iQ hQ
              simp only [List.mem_cons, List.not_mem_nil, or_false] at hQ
              obtain rfl := hQ
              refine ⟨_, rfl, ?_⟩
              refine SL.callm 4 hS rfl (ok_addMultiple (GFR.ext (GFR.norm hgg) hS.ext) (hS.own (i := 4) rfl) (by omega) (hS.rd (i := 3) rfl) (hS.base (i := 4) rfl) (hS.aptRow (i := 4) (j := 3) (by decide) rfl rfl) hv) Try.func75 rfl Try.nm75 rfl rfl ?_
              rintro _ _ w131 ⟨x132, rfl, rfl, hv⟩ hS
              change St _ _ _ _ [.row 22 1 (some ⟨g82, 0, none⟩) 1 1 [.slice A77 ((max (0 : Int) ((((x22.length : Nat) : Int) - ((x35.length : Nat) : Int)) + (1 : Int))).toNat) ((max (0 : Int) ((((x22.length : Nat) : Int) - ((x35.length : Nat) : Int)) + (1 : Int))).toNat)], .row 3 1 A77 ((max (0 : Int) ((((x22.length : Nat) : Int) - ((x35.length : Nat) : Int)) + (1 : Int))).toNat) ((max (0 : Int) ((((x22.length : Nat) : Int) - ((x35.length : Nat) : Int)) + (1 : Int))).toNat) (is (si x88 (((max (0 : Int) ((((x22.length : Nat) : Int) - ((x35.length : Nat) : Int)) + (1 : Int))).toNat - 1 - i83 : Nat) : Int) r108)), .row 3 1 (some ⟨g45, 0, none⟩) 1 1 [.int .i64 z46], .row 3 1 A36 x35.length k37 (is x35), .row 3 1 A23_2 x22.length k24_2 (is x132), .row 22 1 (some ⟨g17, 0, none⟩) 1 1 [.slice A23_2 x22.length k24_2], .row 22 1 (some ⟨g15, 0, none⟩) 1 1 [.slice A77 ((max (0 : Int) ((((x22.length : Nat) : Int) - ((x35.length : Nat) : Int)) + (1 : Int))).toNat) ((max (0 : Int) ((((x22.length : Nat) : Int) - ((x35.length : Nat) : Int)) + (1 : Int))).toNat)], .row 22 1 (some ⟨g13, 0, none⟩) 1 1 [.slice A36 x35.length k37], .row 26 1 (some ⟨g11, 0, none⟩) 1 1 [.pointer (some ag)]] at hS
              refine WL.done ?_
              refine WA.done (by decide +kernel) ?_
              change St _ _ _ _ [.row 22 1 (some ⟨g82, 0, none⟩) 1 1 [.slice A77 ((max (0 : Int) ((((x22.length : Nat) : Int) - ((x35.length : Nat) : Int)) + (1 : Int))).toNat) ((max (0 : Int) ((((x22.length : Nat) : Int) - ((x35.length : Nat) : Int)) + (1 : Int))).toNat)], .row 3 1 A77 ((max (0 : Int) ((((x22.length : Nat) : Int) - ((x35.length : Nat) : Int)) + (1 : Int))).toNat) ((max (0 : Int) ((((x22.length : Nat) : Int) - ((x35.length : Nat) : Int)) + (1 : Int))).toNat) (is (si x88 (((max (0 : Int) ((((x22.length : Nat) : Int) - ((x35.length : Nat) : Int)) + (1 : Int))).toNat - 1 - i83 : Nat) : Int) r108)), .row 3 1 (some ⟨g45, 0, none⟩) 1 1 [.int .i64 z46], .row 3 1 A36 x35.length k37 (is x35), .row 3 1 A23_2 x22.length k24_2 (is x132), .row 22 1 (some ⟨g17, 0, none⟩) 1 1 [.slice A23_2 x22.length k24_2], .row 22 1 (some ⟨g15, 0, none⟩) 1 1 [.slice A77 ((max (0 : Int) ((((x22.length : Nat) : Int) - ((x35.length : Nat) : Int)) + (1 : Int))).toNat) ((max (0 : Int) ((((x22.length : Nat) : Int) - ((x35.length : Nat) : Int)) + (1 : Int))).toNat)], .row 22 1 (some ⟨g13, 0, none⟩) 1 1 [.slice A36 x35.length k37], .row 26 1 (some ⟨g11, 0, none⟩) 1 1 [.pointer (some ag)]] at hS
              exact ⟨(si x88 (((max (0 : Int) ((((x22.length : Nat) : Int) - ((x35.length : Nat) : Int)) + (1 : Int))).toNat - 1 - i83 : Nat) : Int) r108, x132), hv, hS⟩
        · rintro D133 ⟨x88, x89⟩ w134 hv hD hS
          have hv := hd148 x88 x89 hv
          refine W.seq ?_
          obtain ⟨j139, o141, hv⟩ := hv
          obtain ⟨o142, hv⟩ := hv
          have hS0 := hS
          refine W.drawXF 5 4 (fun _ => false) (fun _ => none) [⟨[], [6], false⟩, ⟨[], [3], false⟩, ⟨[], [7], false⟩, ⟨[1, 2], [], false⟩, ⟨[], [8], true⟩] [[(6, .pointer (some ⟨g15, 0, none⟩))], [(3, .pointer (some ⟨g11, 0, none⟩))], [(7, .pointer (some ⟨g17, 0, none⟩))], [], [(8, .int .i64 z44)]] (fun iQ => [fun v _ => v = .slice A77 ((max (0 : Int) ((((x22.length : Nat) : Int) - ((x35.length : Nat) : Int)) + (1 : Int))).toNat) ((max (0 : Int) ((((x22.length : Nat) : Int) - ((x35.length : Nat) : Int)) + (1 : Int))).toNat), fun v _ => v = .pointer (some ag), fun v _ => v = .slice A23_2 x22.length k24_2, fun v _ => v = .slice A23_2 j139.toNat k24_2, fun v _ => v = .int .i64 z44].getD iQ (fun _ _ => True)) Try.mixed (by kernel_rfl) ?_ (by kernel_rfl) ?_ ?_ ?_
          · refine Vs_monoT _ ?_
            intro VQ hVQ vQ wQ1 wQ2 hQ1 hQ2
            simp only [List.mem_cons, List.not_mem_nil, or_false] at hVQ
            rcases hVQ with rfl | rfl | rfl | rfl | rfl
            · exact hQ1
            · exact hQ1
            · exact hQ1
            · exact hQ1
            · exact hQ1
          · refine ⟨⟨rfl, ⟨rfl, trivial⟩, ?_⟩, ⟨rfl, ⟨rfl, trivial⟩, ?_⟩, ⟨rfl, ⟨rfl, trivial⟩, ?_⟩, ⟨rfl, trivial, ?_⟩, ⟨rfl, ⟨rfl, trivial⟩, ?_⟩, trivial⟩
            · intro w135 hE
              have hE := hE rfl
              have hS := hS.grow hE
              intro RR
              refine WL.load Try.underlying22 rfl rfl (Own.vcells (hS.own (i := 7) rfl) 0 _ rfl) rfl ?_
              exact WL.done ⟨_, rfl, ext_refl _, rfl, (fun h => absurd h (by decide)), (fun j h => by cases h)⟩
            · intro w136 hE
              have hE := hE rfl
              have hS := hS.grow hE
              intro RR
              refine WL.load Try.underlying26 rfl rfl (Own.vcells (hS.own (i := 9) rfl) 0 _ rfl) rfl ?_
              exact WL.done ⟨_, rfl, ext_refl _, rfl, (fun h => absurd h (by decide)), (fun j h => by cases h)⟩
            · intro w137 hE
              have hE := hE rfl
              have hS := hS.grow hE
              intro RR
              refine WL.load Try.underlying22 rfl rfl (Own.vcells (hS.own (i := 6) rfl) 0 _ rfl) rfl ?_
              exact WL.done ⟨_, rfl, ext_refl _, rfl, (fun h => absurd h (by decide)), (fun j h => by cases h)⟩
            · intro w138 hE
              have hE := hE rfl
              have hS := hS.grow hE
              rintro _ rfl
              rintro _ rfl
              intro RR
              refine WL.call Try.func71 rfl Try.nm71 rfl rfl (calls_un (ok_trim (GFR.ext (GFR.norm hgg) hS.ext) (hS.rd (i := 5) rfl) o141)) ?_
              rintro _ w140 ⟨_, hGw140, hRww140, hNww140, j139q, rfl, rfl, he⟩
              subst he
              exact WL.done ⟨_, rfl, hGw140, rfl, (fun h => absurd h (by decide)), (fun j h => by cases h)⟩
            · intro w143 hE
              intro RR
              refine WL.move rfl rfl ?_
              exact WL.done ⟨_, rfl, rfl, rfl, (fun h => absurd h (by decide)), (fun j h => by cases h)⟩
          · intro vals w144 hT hVs hAp hCp
            have hS := hS.grow hT
            have hv0 : vals 0 = _ := hVs 0 (by decide)
            have hv1 : vals 1 = _ := hVs 1 (by decide)
            have hv2 : vals 2 = _ := hVs 2 (by decide)
            have hv3 : vals 3 = _ := hVs 3 (by decide)
            have hv4 : vals 4 = _ := hVs 4 (by decide)
            rw [show (List.filterMap (fun i => Option.map (fun t => (t, vals i)) (dstAt _ i)) (List.range _)) = [(69, .slice A77 ((max (0 : Int) ((((x22.length : Nat) : Int) - ((x35.length : Nat) : Int)) + (1 : Int))).toNat) ((max (0 : Int) ((((x22.length : Nat) : Int) - ((x35.length : Nat) : Int)) + (1 : Int))).toNat)), (70, .pointer (some ag)), (71, .slice A23_2 x22.length k24_2), (72, .slice A23_2 j139.toNat k24_2), (73, .int .i64 z44)] from by
              show [(69, vals 0), (70, vals 1), (71, vals 2), (72, vals 3), (73, vals 4)] = _
              rw [hv0, hv1, hv2, hv3, hv4]]
            refine WA.step [5] (by decide +kernel) rfl ?_
            intro iQ hQ
            simp only [List.mem_cons, List.not_mem_nil, or_false] at hQ
            obtain rfl := hQ
            refine ⟨_, rfl, ?_⟩
            refine SL.store (cs' := [.slice A77 ((max (0 : Int) ((((x22.length : Nat) : Int) - ((x35.length : Nat) : Int)) + (1 : Int))).toNat) ((max (0 : Int) ((((x22.length : Nat) : Int) - ((x35.length : Nat) : Int)) + (1 : Int))).toNat)]) 7 0 hS rfl Try.el22 rfl rfl rfl (of_ble rfl) rfl ?_
            intro w145 hS
            refine WL.done ?_
            refine WA.step [6] (by decide +kernel) rfl ?_
            intro iQ hQ
            simp only [List.mem_cons, List.not_mem_nil, or_false] at hQ
            obtain rfl := hQ
            refine ⟨_, rfl, ?_⟩
            refine SL.store (cs' := [.slice A23_2 j139.toNat k24_2]) 6 0 hS rfl Try.el22 rfl rfl rfl (of_ble rfl) rfl ?_
            intro w146 hS
            refine WL.done ?_
            refine WA.step [7] (by decide +kernel) rfl ?_
            intro iQ hQ
            simp only [List.mem_cons, List.not_mem_nil, or_false] at hQ
            obtain rfl := hQ
            refine ⟨_, rfl, ?_⟩
            refine WL.assign rfl rfl ?_
            refine WL.done ?_
            refine WA.done (by decide +kernel) ?_
            refine W.ret ?_
            have hm0 := (hS.rd (i := 2) rfl).ilen
            have hS := hS.relen (i := 2) rfl hm0.symm
            have hq1 := (hS.rd (i := 5) rfl).ilen
            have hS := hS.shrink (i := 5) (k := j139.toNat) rfl (by omega)
            have hl1 : (x89.take j139.toNat).length = j139.toNat := by rw [List.length_take]; omega
            have hS := hS.pick [0, 7, 6, 2, 5] rfl
            obtain ⟨hDD133, hS⟩ := hS.taken trivial
            repeat with_reducible first | refine blk.ret ?_ | refine exits.retI ?_
            refine endC.mk1 hDD133 ⟨[.slice A77 ((max (0 : Int) ((((x22.length : Nat) : Int) - ((x35.length : Nat) : Int)) + (1 : Int))).toNat) ((max (0 : Int) ((((x22.length : Nat) : Int) - ((x35.length : Nat) : Int)) + (1 : Int))).toNat), .slice A23_2 j139.toNat k24_2, .int .i64 z44], ⟨_, _, _, rfl, rfl, run_load1 Try.underlying22 rfl (Own.vcells (hS.own (i := 0) rfl) 0 _ rfl), ⟨_, _, _, rfl, rfl, run_load1 Try.underlying22 rfl (Own.vcells (hS.own (i := 1) rfl) 0 _ rfl), ⟨_, _, rfl, rfl, rfl⟩⟩⟩, ?_⟩
            exact ⟨_, hS.ext, (hS.pick [2, 3] rfl).rows, News.of (hS.pick [2, 3] rfl).rows rfl, ⟨x88, x89.take j139.toNat, z44, A77, (max (0 : Int) ((((x22.length : Nat) : Int) - ((x35.length : Nat) : Int)) + (1 : Int))).toNat, A23_2, k24_2, (by first | (rw [hm0, hl1]; done) | (rw [hm0, hl1]; rfl)), rfl, hv⟩⟩
          · intro vals w144 hT hVs hAp hCp q_ hq_
            have hS := hS.grow hT
            obtain rfl : q_ = 4 := hq_.trans (by decide +kernel)
            have hv0 : vals 0 = _ := hVs 0 (by decide) (by decide)
            have hv1 : vals 1 = _ := hVs 1 (by decide) (by decide)
            have hv2 : vals 2 = _ := hVs 2 (by decide) (by decide)
            have hv3 : vals 3 = _ := hVs 3 (by decide) (by decide)
            rw [show (List.filterMap (fun i => if i = 4 then none else Option.map (fun t => (t, vals i)) (dstAt _ i)) (List.range _)) = [(69, .slice A77 ((max (0 : Int) ((((x22.length : Nat) : Int) - ((x35.length : Nat) : Int)) + (1 : Int))).toNat) ((max (0 : Int) ((((x22.length : Nat) : Int) - ((x35.length : Nat) : Int)) + (1 : Int))).toNat)), (70, .pointer (some ag)), (71, .slice A23_2 x22.length k24_2), (72, .slice A23_2 j139.toNat k24_2)] from by
              show [(69, vals 0), (70, vals 1), (71, vals 2), (72, vals 3)] = _
              rw [hv0, hv1, hv2, hv3]]
            refine WA.step [4, 5] (by decide +kernel) rfl ?_
            intro iQ hQ
            simp only [List.mem_cons, List.not_mem_nil, or_false] at hQ
            rcases hQ with rfl | rfl
            · refine ⟨_, rfl, ?_⟩
              refine WL.move rfl rfl ?_
              refine WL.done ?_
              refine WA.step [5] (by decide +kernel) rfl ?_
              intro iQ hQ
              simp only [List.mem_cons, List.not_mem_nil, or_false] at hQ
              obtain rfl := hQ
              refine ⟨_, rfl, ?_⟩
              refine SL.store (cs' := [.slice A77 ((max (0 : Int) ((((x22.length : Nat) : Int) - ((x35.length : Nat) : Int)) + (1 : Int))).toNat) ((max (0 : Int) ((((x22.length : Nat) : Int) - ((x35.length : Nat) : Int)) + (1 : Int))).toNat)]) 7 0 hS rfl Try.el22 rfl rfl rfl (of_ble rfl) rfl ?_
              intro w145 hS
              refine WL.done ?_
              refine WA.step [6] (by decide +kernel) rfl ?_
              intro iQ hQ
              simp only [List.mem_cons, List.not_mem_nil, or_false] at hQ
              obtain rfl := hQ
              refine ⟨_, rfl, ?_⟩
              refine SL.store (cs' := [.slice A23_2 j139.toNat k24_2]) 6 0 hS rfl Try.el22 rfl rfl rfl (of_ble rfl) rfl ?_
              intro w146 hS
              refine WL.done ?_
              refine WA.step [7] (by decide +kernel) rfl ?_
              intro iQ hQ
              simp only [List.mem_cons, List.not_mem_nil, or_false] at hQ
              obtain rfl := hQ
              refine ⟨_, rfl, ?_⟩
              refine WL.assign rfl rfl ?_
              refine WL.done ?_
              refine WA.done (by decide +kernel) ?_
              refine W.ret ?_
              have hm0 := (hS.rd (i := 2) rfl).ilen
              have hS := hS.relen (i := 2) rfl hm0.symm
              have hq1 := (hS.rd (i := 5) rfl).ilen
              have hS := hS.shrink (i := 5) (k := j139.toNat) rfl (by omega)
              have hl1 : (x89.take j139.toNat).length = j139.toNat := by rw [List.length_take]; omega
              have hS := hS.pick [0, 7, 6, 2, 5] rfl
              obtain ⟨hDD133, hS⟩ := hS.taken trivial
              repeat with_reducible first | refine blk.ret ?_ | refine exits.retI ?_
              refine endC.mk1 hDD133 ⟨[.slice A77 ((max (0 : Int) ((((x22.length : Nat) : Int) - ((x35.length : Nat) : Int)) + (1 : Int))).toNat) ((max (0 : Int) ((((x22.length : Nat) : Int) - ((x35.length : Nat) : Int)) + (1 : Int))).toNat), .slice A23_2 j139.toNat k24_2, .int .i64 z44], ⟨_, _, _, rfl, rfl, run_load1 Try.underlying22 rfl (Own.vcells (hS.own (i := 0) rfl) 0 _ rfl), ⟨_, _, _, rfl, rfl, run_load1 Try.underlying22 rfl (Own.vcells (hS.own (i := 1) rfl) 0 _ rfl), ⟨_, _, rfl, rfl, rfl⟩⟩⟩, ?_⟩
              exact ⟨_, hS.ext, (hS.pick [2, 3] rfl).rows, News.of (hS.pick [2, 3] rfl).rows rfl, ⟨x88, x89.take j139.toNat, z44, A77, (max (0 : Int) ((((x22.length : Nat) : Int) - ((x35.length : Nat) : Int)) + (1 : Int))).toNat, A23_2, k24_2, (by first | (rw [hm0, hl1]; done) | (rw [hm0, hl1]; rfl)), rfl, hv⟩⟩
            · refine ⟨_, rfl, ?_⟩
              refine SL.store (cs' := [.slice A77 ((max (0 : Int) ((((x22.length : Nat) : Int) - ((x35.length : Nat) : Int)) + (1 : Int))).toNat) ((max (0 : Int) ((((x22.length : Nat) : Int) - ((x35.length : Nat) : Int)) + (1 : Int))).toNat)]) 7 0 hS rfl Try.el22 rfl rfl rfl (of_ble rfl) rfl ?_
              intro w145 hS
              refine WL.done ?_
              refine WA.step [4, 6] (by decide +kernel) rfl ?_
              intro iQ hQ
              simp only [List.mem_cons, List.not_mem_nil, or_false] at hQ
              rcases hQ with rfl | rfl
              · refine ⟨_, rfl, ?_⟩
                refine WL.move rfl rfl ?_
                refine WL.done ?_
                refine WA.step [6] (by decide +kernel) rfl ?_
                intro iQ hQ
                simp only [List.mem_cons, List.not_mem_nil, or_false] at hQ
                obtain rfl := hQ
                refine ⟨_, rfl, ?_⟩
                refine SL.store (cs' := [.slice A23_2 j139.toNat k24_2]) 6 0 hS rfl Try.el22 rfl rfl rfl (of_ble rfl) rfl ?_
                intro w146 hS
                refine WL.done ?_
                refine WA.step [7] (by decide +kernel) rfl ?_
                intro iQ hQ
                simp only [List.mem_cons, List.not_mem_nil, or_false] at hQ
                obtain rfl := hQ
                refine ⟨_, rfl, ?_⟩
                refine WL.assign rfl rfl ?_
                refine WL.done ?_
                refine WA.done (by decide +kernel) ?_
                refine W.ret ?_
                have hm0 := (hS.rd (i := 2) rfl).ilen
                have hS := hS.relen (i := 2) rfl hm0.symm
                have hq1 := (hS.rd (i := 5) rfl).ilen
                have hS := hS.shrink (i := 5) (k := j139.toNat) rfl (by omega)
                have hl1 : (x89.take j139.toNat).length = j139.toNat := by rw [List.length_take]; omega
                have hS := hS.pick [0, 7, 6, 2, 5] rfl
                obtain ⟨hDD133, hS⟩ := hS.taken trivial
                repeat with_reducible first | refine blk.ret ?_ | refine exits.retI ?_
                refine endC.mk1 hDD133 ⟨[.slice A77 ((max (0 : Int) ((((x22.length : Nat) : Int) - ((x35.length : Nat) : Int)) + (1 : Int))).toNat) ((max (0 : Int) ((((x22.length : Nat) : Int) - ((x35.length : Nat) : Int)) + (1 : Int))).toNat), .slice A23_2 j139.toNat k24_2, .int .i64 z44], ⟨_, _, _, rfl, rfl, run_load1 Try.underlying22 rfl (Own.vcells (hS.own (i := 0) rfl) 0 _ rfl), ⟨_, _, _, rfl, rfl, run_load1 Try.underlying22 rfl (Own.vcells (hS.own (i := 1) rfl) 0 _ rfl), ⟨_, _, rfl, rfl, rfl⟩⟩⟩, ?_⟩
                exact ⟨_, hS.ext, (hS.pick [2, 3] rfl).rows, News.of (hS.pick [2, 3] rfl).rows rfl, ⟨x88, x89.take j139.toNat, z44, A77, (max (0 : Int) ((((x22.length : Nat) : Int) - ((x35.length : Nat) : Int)) + (1 : Int))).toNat, A23_2, k24_2, (by first | (rw [hm0, hl1]; done) | (rw [hm0, hl1]; rfl)), rfl, hv⟩⟩
              · refine ⟨_, rfl, ?_⟩
                refine SL.store (cs' := [.slice A23_2 j139.toNat k24_2]) 6 0 hS rfl Try.el22 rfl rfl rfl (of_ble rfl) rfl ?_
                intro w146 hS
                refine WL.done ?_
                refine WA.step [4] (by decide +kernel) rfl ?_
                intro iQ hQ
                simp only [List.mem_cons, List.not_mem_nil, or_false] at hQ
                obtain rfl := hQ
                refine ⟨_, rfl, ?_⟩
                refine WL.move rfl rfl ?_
                refine WL.done ?_
                refine WA.step [7] (by decide +kernel) rfl ?_
                intro iQ hQ
                simp only [List.mem_cons, List.not_mem_nil, or_false] at hQ
                obtain rfl := hQ
                refine ⟨_, rfl, ?_⟩
                refine WL.assign rfl rfl ?_
                refine WL.done ?_
                refine WA.done (by decide +kernel) ?_
                refine W.ret ?_
                have hm0 := (hS.rd (i := 2) rfl).ilen
                have hS := hS.relen (i := 2) rfl hm0.symm
                have hq1 := (hS.rd (i := 5) rfl).ilen
                have hS := hS.shrink (i := 5) (k := j139.toNat) rfl (by omega)
                have hl1 : (x89.take j139.toNat).length = j139.toNat := by rw [List.length_take]; omega
                have hS := hS.pick [0, 7, 6, 2, 5] rfl
                obtain ⟨hDD133, hS⟩ := hS.taken trivial
                repeat with_reducible first | refine blk.ret ?_ | refine exits.retI ?_
                refine endC.mk1 hDD133 ⟨[.slice A77 ((max (0 : Int) ((((x22.length : Nat) : Int) - ((x35.length : Nat) : Int)) + (1 : Int))).toNat) ((max (0 : Int) ((((x22.length : Nat) : Int) - ((x35.length : Nat) : Int)) + (1 : Int))).toNat), .slice A23_2 j139.toNat k24_2, .int .i64 z44], ⟨_, _, _, rfl, rfl, run_load1 Try.underlying22 rfl (Own.vcells (hS.own (i := 0) rfl) 0 _ rfl), ⟨_, _, _, rfl, rfl, run_load1 Try.underlying22 rfl (Own.vcells (hS.own (i := 1) rfl) 0 _ rfl), ⟨_, _, rfl, rfl, rfl⟩⟩⟩, ?_⟩
                exact ⟨_, hS.ext, (hS.pick [2, 3] rfl).rows, News.of (hS.pick [2, 3] rfl).rows rfl, ⟨x88, x89.take j139.toNat, z44, A77, (max (0 : Int) ((((x22.length : Nat) : Int) - ((x35.length : Nat) : Int)) + (1 : Int))).toNat, A23_2, k24_2, (by first | (rw [hm0, hl1]; done) | (rw [hm0, hl1]; rfl)), rfl, hv⟩⟩
        · rintro _ e _ _ _ hv; exact hv.elim

end Go.Proofs.Ytmdigamgojfjdaa
set_option linter.unusedSimpArgs false
set_option linter.unusedVariables false
namespace Go.Proofs.Ytmdigamgojfjdaa
open Go.RowKit
end Go.Proofs.Ytmdigamgojfjdaa
