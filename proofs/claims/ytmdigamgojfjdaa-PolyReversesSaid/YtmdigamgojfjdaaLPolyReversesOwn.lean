/- What only this law leans on. -/
import Derived.Test.YtmdigamgojfjdaaPolyAddsG12
set_option linter.unusedVariables false
namespace Go.Proofs.Ytmdigamgojfjdaa
open Go.RowKit
theorem Try.nm57 : (Try.f57.name == "runtime.NumGoroutine") = false := by kernel_rfl
end Go.Proofs.Ytmdigamgojfjdaa
set_option linter.unusedSimpArgs false
set_option linter.unusedVariables false
namespace Go.Proofs.Ytmdigamgojfjdaa
open Go.RowKit
def V_reverse (Fg : GFv) (p : List Int) (n : Int) (Q : List Int × Int → Prop) : Prop :=
  V_deg Fg p (fun r12 => ((n < r12) → (Q (([] : List Int), (6 : Int)))) ∧ (¬ (n < r12) → (((n < (0 : Int)) → (Q (([] : List Int), (6 : Int)))) ∧ (¬ (n < (0 : Int)) → ((((4096 : Int) < n) → (Q (([] : List Int), (6 : Int)))) ∧ (¬ ((4096 : Int) < n) → ((I64 (n + (1 : Int))) ∧ ((0 ≤ (n + (1 : Int)) ∧ (n + (1 : Int)) * 8 ≤ 281474976710656 ∧ (n + (1 : Int)) ≤ 281474976710656) ∧ (∃ (I27 : List Int → Int → Prop) (μ28 : List Int → Int → Nat), I27 (List.replicate (n + (1 : Int)).toNat (0 : Int)) (0 : Int) ∧ ∀ (x25 : List Int) (z26 : Int), (I27 x25 z26 → (((z26 < (((n + (1 : Int)).toNat : Nat) : Int)) → ((I64 (n - z26)) ∧ (V_coef Fg p (n - z26) (fun r33 => (0 ≤ z26 ∧ z26 < ((n + (1 : Int)).toNat : Nat)) ∧ ((I64 (z26 + (1 : Int))) ∧ (I27 (si x25 z26 r33) (z26 + (1 : Int)) ∧ μ28 (si x25 z26 r33) (z26 + (1 : Int)) < μ28 x25 z26)))))) ∧ (¬ (z26 < (((n + (1 : Int)).toNat : Nat) : Int)) → (V_trim Fg x25 (fun j38 => (0 ≤ j38 ∧ j38 ≤ ((n + (1 : Int)).toNat : Nat)) ∧ (Q (x25.take j38.toNat, (0 : Int)))))))))))))))))
theorem ok_reverse {w : World} {Q : List Int × Int → Prop} {Fg : GFv} {p : List Int} {n : Int} {ag : Addr} {Bg : Nat} (hgg : GFR Bg w ag Fg) {Bp : Nat} {Ap : Option Addr} {np kp : Nat} (hp : Rd Bp w 1 Ap np kp (is p)) (hv : V_reverse Fg p n Q) :
    Calls Try.prog 57 #[.pointer (some ag), .slice Ap np kp, .int .i64 n] w fun e w' => ∃ v Qr, e = .returned v ∧ w.grownBy w' none ∧ Rows w.heap.size none w' Qr ∧ News w.heap.size Qr ∧ ∃ (r0 : List Int) (r1 : Int) (Ar0 : Option Addr) (cr0 : Nat), v = .tuple #[.slice Ar0 r0.length cr0, .int .i64 r1] ∧ Qr = [.row 3 1 Ar0 r0.length cr0 (is r0)] ∧ Q (r0, r1) := by
  have hgg_ := hgg
  obtain ⟨Ag_mod, kg_mod, Ag_exp, kg_exp, Ag_log, kg_log, Ag_above, kg_above, hg_c, hg_mod, hg_exp, hg_log, hg_above⟩ := hgg_
  have hnp := hp.ilen
  subst hnp
  refine calls_swap ?_
  refine calls_of_W (vs := [.pointer (some ag), .slice Ap p.length kp, .int .i64 n]) [6, 7] Try.func57 rfl rfl rfl rfl ?_
  have hS := St.start w
  unfold V_reverse at hv
  refine W.seq ?_
  refine W.region ?_
  refine WL.assign rfl rfl ?_
  refine WL.assign rfl rfl ?_
  refine WL.done ?_
  refine W.seq ?_
  refine W.seq ?_
  refine W.region ?_
  refine WL.move rfl rfl ?_
  refine WL.move rfl rfl ?_
  refine WL.move rfl rfl ?_
  refine SL.call hS (ok_deg (GFR.ext (GFR.norm hgg) hS.ext) (hS.ro hp) hv) Try.func25 rfl Try.nm25 rfl rfl ?_
  rintro _ _ w11 ⟨r12, rfl, rfl, hv⟩ hGw11 hS
  change St _ _ _ _ [] at hS
  refine WL.lssD rfl rfl rfl ?_
  refine WL.move rfl rfl ?_
  by_cases g13 : n < r12
  · have hv := hv.1 g13
    rw [decide_eq_true g13]
    refine WL.pass rfl rfl rfl ?_
    refine WL.pass rfl rfl rfl ?_
    refine WL.pick rfl rfl rfl ?_
    refine WL.move rfl rfl ?_
    refine WL.pass rfl rfl rfl ?_
    refine WL.pass rfl rfl rfl ?_
    refine WL.pick rfl rfl rfl ?_
    refine WL.done ?_
    refine W.condT rfl ?_
    refine W.seq ?_
    refine W.region ?_
    refine WL.assign rfl rfl ?_
    refine WL.assign rfl rfl ?_
    refine WL.done ?_
    refine W.ret ?_
    have hS := hS.nil (e := 3) (z := 1)
    refine ⟨_, rfl, Fin.nil ?_⟩
    exact ⟨_, hS.ext, (hS.pick [0] rfl).rows, News.of (hS.pick [0] rfl).rows rfl, ⟨([] : List Int), (6 : Int), none, 0, rfl, rfl, hv⟩⟩
  · have hv := hv.2 g13
    rw [decide_eq_false g13]
    refine WL.take rfl ?_
    refine WL.move rfl rfl ?_
    refine WL.take rfl ?_
    refine WL.lssD rfl rfl rfl ?_
    refine WL.pick rfl rfl rfl ?_
    refine WL.move rfl rfl ?_
    by_cases g14 : n < (0 : Int)
    · have hv := hv.1 g14
      rw [decide_eq_true g14]
      refine WL.pass rfl rfl rfl ?_
      refine WL.pass rfl rfl rfl ?_
      refine WL.pick rfl rfl rfl ?_
      refine WL.done ?_
      refine W.condT rfl ?_
      refine W.seq ?_
      refine W.region ?_
      refine WL.assign rfl rfl ?_
      refine WL.assign rfl rfl ?_
      refine WL.done ?_
      refine W.ret ?_
      have hS := hS.nil (e := 3) (z := 1)
      refine ⟨_, rfl, Fin.nil ?_⟩
      exact ⟨_, hS.ext, (hS.pick [0] rfl).rows, News.of (hS.pick [0] rfl).rows rfl, ⟨([] : List Int), (6 : Int), none, 0, rfl, rfl, hv⟩⟩
    · have hv := hv.2 g14
      rw [decide_eq_false g14]
      refine WL.take rfl ?_
      refine WL.move rfl rfl ?_
      refine WL.take rfl ?_
      refine WL.gtrD rfl rfl rfl ?_
      refine WL.pick rfl rfl rfl ?_
      refine WL.done ?_
      refine W.cond2 rfl (fun c15 => ?_) (fun c15 => ?_)
      · have hv := hv.1 (of_decide_eq_true c15)
        refine W.seq ?_
        refine W.region ?_
        refine WL.assign rfl rfl ?_
        refine WL.assign rfl rfl ?_
        refine WL.done ?_
        refine W.ret ?_
        have hS := hS.nil (e := 3) (z := 1)
        refine ⟨_, rfl, Fin.nil ?_⟩
        exact ⟨_, hS.ext, (hS.pick [0] rfl).rows, News.of (hS.pick [0] rfl).rows rfl, ⟨([] : List Int), (6 : Int), none, 0, rfl, rfl, hv⟩⟩
      · have hv := hv.2 (of_decide_eq_false c15)
        refine W.skip ?_
        refine W.seq ?_
        refine W.region ?_
        refine WL.move rfl rfl ?_
        obtain ⟨o16, hv⟩ := hv
        refine WL.add (r := (n + (1 : Int))) rfl rfl (wr o16) rfl ?_
        obtain ⟨o17, hv⟩ := hv
        refine SL.make (J := (n + (1 : Int))) hS Try.underlying22 Try.el3 rfl rfl o17 (made_is _) rfl ?_
        intro A18 w19 hS
        refine WL.assign rfl rfl ?_
        refine WL.done ?_
        refine W.seq ?_
        refine W.seq ?_
        refine W.region ?_
        refine WL.move rfl rfl ?_
        refine WL.len Try.underlying22 rfl rfl ?_
        refine WL.move rfl rfl ?_
        refine WL.done ?_
        refine W.block ?_
        obtain ⟨I27, μ28, hv, hk40⟩ := hv
        change St _ _ _ _ [.row 3 1 A18 ((n + (1 : Int)).toNat) ((n + (1 : Int)).toNat) (is (List.replicate (n + (1 : Int)).toNat (0 : Int)))] at hS
        refine W.loop (σ := List Int × Int) (fun q w1 => match q with | (x25, z26) => I27 x25 z26 ∧ St TT w none w1 [.row 3 1 A18 ((n + (1 : Int)).toNat) ((n + (1 : Int)).toNat) (is x25)]) (fun q => match q with | (x25, z26) => [(0, .pointer (some ag)), (1, .slice Ap p.length kp), (2, .int .i64 n), (6, .slice none 0 0), (7, .int .i64 (0 : Int)), (8, .slice A18 ((n + (1 : Int)).toNat) ((n + (1 : Int)).toNat)), (27, .int .i64 (((n + (1 : Int)).toNat : Nat) : Int)), (28, .int .i64 z26)]) (fun q => match q with | (x25, z26) => μ28 x25 z26) (List.replicate (n + (1 : Int)).toNat (0 : Int), (0 : Int)) ⟨hv, hS⟩ ⟨rfl, rfl, rfl, rfl, rfl, rfl, rfl, rfl, trivial⟩ ?_
        rintro ⟨x25, z26⟩ w29 ⟨hv, hS⟩
        have hv := hk40 x25 z26 hv
        refine W.seq ?_
        refine W.region ?_
        refine WL.lssD rfl rfl rfl ?_
        refine WL.done ?_
        refine W.seq ?_
        refine W.cond2 rfl (fun c30 => ?_) (fun c30 => ?_)
        · have hv := hv.1 (of_decide_eq_true c30)
          refine W.skip ?_
          refine W.seq ?_
          refine W.block ?_
          refine W.seq ?_
          refine W.region ?_
          refine WL.move rfl rfl ?_
          refine WL.assign rfl rfl ?_
          refine WL.done ?_
          refine W.region ?_
          refine WL.move rfl rfl ?_
          refine WL.move rfl rfl ?_
          refine WL.move rfl rfl ?_
          refine WL.move rfl rfl ?_
          refine WL.move rfl rfl ?_
          refine WL.move rfl rfl ?_
          obtain ⟨o31, hv⟩ := hv
          refine WL.sub (r := (n - z26)) rfl rfl (wr o31) rfl ?_
          refine SL.call hS (ok_coef (GFR.ext (GFR.norm hgg) hS.ext) (hS.ro hp) hv) Try.func64 rfl Try.nm64 rfl rfl ?_
          rintro _ _ w32 ⟨r33, rfl, rfl, hv⟩ hGw32 hS
          change St _ _ _ _ [.row 3 1 A18 ((n + (1 : Int)).toNat) ((n + (1 : Int)).toNat) (is x25)] at hS
          obtain ⟨o34, hv⟩ := hv
          refine SL.index Try.underlying22 Try.el3 (hS.rd (i := 0) rfl) rfl rfl o34 rfl ?_
          refine SL.store (cs' := is (si x25 z26 r33)) 0 z26.toNat hS rfl Try.el3 rfl rfl rfl (is_lt (hS.rd (i := 0) rfl) o34) (is_set _ _ _) ?_
          intro w35 hS
          refine WL.done ?_
          refine W.region ?_
          obtain ⟨o36, hv⟩ := hv
          refine WL.add (r := (z26 + (1 : Int))) rfl rfl (wr o36) rfl ?_
          refine WL.move rfl rfl ?_
          refine WL.done ?_
          change St _ _ _ _ [.row 3 1 A18 ((n + (1 : Int)).toNat) ((n + (1 : Int)).toNat) (is (si x25 z26 r33))] at hS
          exact ⟨(si x25 z26 r33, (z26 + (1 : Int))), ⟨rfl, rfl, rfl, rfl, rfl, rfl, rfl, rfl, trivial⟩, hv.2, rfl, hv.1, hS⟩
        · have hv := hv.2 (of_decide_eq_false c30)
          refine W.exit ?_
          refine W.seq ?_
          refine W.region ?_
          refine WL.move rfl rfl ?_
          refine WL.move rfl rfl ?_
          refine SL.call hS (ok_trim (GFR.ext (GFR.norm hgg) hS.ext) (hS.rd (i := 0) rfl) hv) Try.func71 rfl Try.nm71 rfl rfl ?_
          rintro _ _ w37 ⟨j38, rfl, rfl, hv⟩ hGw37 hS
          change St _ _ _ _ [.row 3 1 A18 ((n + (1 : Int)).toNat) ((n + (1 : Int)).toNat) (is x25)] at hS
          obtain ⟨o39, hv⟩ := hv
          refine WL.assign rfl rfl ?_
          refine WL.assign rfl rfl ?_
          refine WL.done ?_
          refine W.ret ?_
          have hq0 := (hS.rd (i := 0) rfl).ilen
          have hS := hS.shrink (i := 0) (k := j38.toNat) rfl (by omega)
          have hl0 : (x25.take j38.toNat).length = j38.toNat := by rw [List.length_take]; omega
          refine ⟨_, rfl, Fin.nil ?_⟩
          exact ⟨_, hS.ext, (hS.pick [0] rfl).rows, News.of (hS.pick [0] rfl).rows rfl, ⟨x25.take j38.toNat, (0 : Int), A18, (n + (1 : Int)).toNat, (by first | (rw [hl0]; done) | (rw [hl0]; rfl)), rfl, hv⟩⟩

end Go.Proofs.Ytmdigamgojfjdaa
set_option linter.unusedSimpArgs false
set_option linter.unusedVariables false
namespace Go.Proofs.Ytmdigamgojfjdaa
open Go.RowKit
def V_PolyReverses (Pf : Int) (Mf : Int) (mf : List Int) (p : List Int) (n : Int) (Q : Bool → Prop) : Prop :=
  V_alive  (fun r14 => (((!r14) = true) → Q false) ∧ ((!r14) = false → (V_made Pf Mf mf (fun q => match q with | none => Q true | some F19 => V_short ([p] : List (List Int)) (fun r29 => (((!r29) = true) → Q true) ∧ ((!r29) = false → (V_reverse F19 p n (fun q => match q with | (x32, r36) => ((n < (0 : Int)) → (((r36 = (6 : Int)) → (Q (decide (((x32.length : Nat) : Int) = (0 : Int))))) ∧ (¬ (r36 = (6 : Int)) → Q false))) ∧ (¬ (n < (0 : Int)) → ((((4096 : Int) < n) → (((r36 = (6 : Int)) → (Q (decide (((x32.length : Nat) : Int) = (0 : Int))))) ∧ (¬ (r36 = (6 : Int)) → Q false))) ∧ (¬ ((4096 : Int) < n) → (V_rdeg Pf Mf mf p (fun r42 => ((n < r42) → (((r36 = (6 : Int)) → (Q (decide (((x32.length : Nat) : Int) = (0 : Int))))) ∧ (¬ (r36 = (6 : Int)) → Q false))) ∧ (¬ (n < r42) → (((r36 ≠ (0 : Int)) → Q false) ∧ (¬ (r36 ≠ (0 : Int)) → ((I64 (n + (1 : Int))) ∧ ((((n + (1 : Int)) < ((x32.length : Nat) : Int)) → Q false) ∧ (¬ ((n + (1 : Int)) < ((x32.length : Nat) : Int)) → (V_rcanon Pf Mf mf x32 (fun x49 => V_lsame x32 x49 (fun r54 => (((!r54) = true) → Q false) ∧ ((!r54) = false → (∃ (I59 : Int → Prop) (μ60 : Int → Nat), I59 (0 : Int) ∧ ∀ (z58 : Int), (I59 z58 → (((z58 ≤ n) → (∃ (r67 : Int), V_rat Pf Mf mf x32 z58 (fun q => q = r67) ∧ ((I64 (n - z58)) ∧ (∃ (r77 : Int), V_rat Pf Mf mf p (n - z58) (fun q => q = r77) ∧ (((r67 ≠ r77) → Q false) ∧ (¬ (r67 ≠ r77) → ((I64 (z58 + (1 : Int))) ∧ (I59 (z58 + (1 : Int)) ∧ μ60 (z58 + (1 : Int)) < μ60 z58)))))))) ∧ (¬ (z58 ≤ n) → (V_reverse F19 x32 n (fun q => match q with | (x85, r89) => ((r89 = (0 : Int)) → (V_rcanon Pf Mf mf p (fun x92 => V_lsame x85 x92 (fun r97 => Q r97)))) ∧ (¬ (r89 = (0 : Int)) → Q false))))))))))))))))))))))))))))))
theorem ok_PolyReverses {w : World} {Q : Bool → Prop} {Pf : Int} {Mf : Int} {mf : List Int} {p : List Int} {n : Int} {Bf : Nat} {Af : Option Addr} {nf kf : Nat} (hf : Rd Bf w 1 Af nf kf (is mf)) {Bp : Nat} {Ap : Option Addr} {np kp : Nat} (hp : Rd Bp w 1 Ap np kp (is p)) (hv : V_PolyReverses Pf Mf mf p n Q) :
    Calls Try.prog 17 #[.agg #[.int .i64 Pf, .int .i64 Mf, .slice Af nf kf], .slice Ap np kp, .int .i64 n] w fun e w' => ∃ v Qr, e = .returned v ∧ w.grownBy w' none ∧ Rows w.heap.size none w' Qr ∧ News w.heap.size Qr ∧ ∃ (r0 : Bool), v = .bool r0 ∧ Qr = [] ∧ Q r0 := by
  have hnf := hf.ilen
  subst hnf
  have hnp := hp.ilen
  subst hnp
  refine calls_swap ?_
  refine calls_of_W (vs := [.agg #[.int .i64 Pf, .int .i64 Mf, .slice Af mf.length kf], .slice Ap p.length kp, .int .i64 n]) [6] Try.func17 rfl rfl rfl rfl ?_
  have hS := St.start w
  unfold V_PolyReverses at hv
  refine W.seq ?_
  refine W.region ?_
  refine SL.box (z := 3) (cs := [.int .i64 Pf, .int .i64 Mf, .slice Af mf.length kf]) hS rfl rfl rfl rfl ?_
  intro g11 w12 hS
  refine WL.assign rfl rfl ?_
  refine WL.done ?_
  refine W.seq ?_
  refine W.seq ?_
  refine W.region ?_
  refine SL.call hS (ok_alive  hv) Try.func20 rfl Try.nm20 rfl rfl ?_
  rintro _ _ w13 ⟨r14, rfl, rfl, hv⟩ hGw13 hS
  change St _ _ _ _ [.row 24 3 (some ⟨g11, 0, none⟩) 1 1 [.int .i64 Pf, .int .i64 Mf, .slice Af mf.length kf]] at hS
  refine WL.not rfl rfl ?_
  refine WL.done ?_
  refine W.cond2 rfl (fun c15 => ?_) (fun c15 => ?_)
  · have hv := hv.1 (c15)
    refine W.seq ?_
    refine W.region ?_
    refine WL.assign rfl rfl ?_
    refine WL.done ?_
    refine W.ret ?_
    refine ⟨_, rfl, Fin.nil ?_⟩
    exact ⟨_, hS.ext, (hS.pick [] rfl).rows, News.of (hS.pick [] rfl).rows rfl, ⟨false, rfl, rfl, hv⟩⟩
  · have hv := hv.2 (c15)
    refine W.skip ?_
    refine W.seq ?_
    refine W.region ?_
    refine WL.loadV (cs := [.int .i64 Pf, .int .i64 Mf, .slice Af mf.length kf]) Try.el24 Try.agg24 rfl rfl (Own.vcells (hS.own (i := 0) rfl)) rfl ?_
    refine SL.call hS (ok_made (hS.ro hf) hv) Try.func21 rfl Try.nm21 rfl rfl ?_
    rintro _ _ w17 ⟨o, hv, hK⟩ hGw17 hS
    cases o with
    | none =>
      obtain ⟨rfl, rfl⟩ := hK
      change St _ _ _ _ [.row 24 3 (some ⟨g11, 0, none⟩) 1 1 [.int .i64 Pf, .int .i64 Mf, .slice Af mf.length kf]] at hS
      refine WL.assign rfl rfl ?_
      refine WL.done ?_
      refine W.seq ?_
      refine W.seq ?_
      refine W.region ?_
      refine WL.move rfl rfl ?_
      refine WL.eqlPn Try.underlying26 rfl rfl rfl rfl ?_
      refine WL.move rfl rfl ?_
      refine WL.pass rfl rfl rfl ?_
      refine WL.pass rfl rfl rfl ?_
      refine WL.pass rfl rfl rfl ?_
      refine WL.pass rfl rfl rfl ?_
      refine WL.pick rfl rfl rfl ?_
      refine WL.done ?_
      refine W.condT rfl ?_
      refine W.seq ?_
      refine W.region ?_
      refine WL.assign rfl rfl ?_
      refine WL.done ?_
      refine W.ret ?_
      refine ⟨_, rfl, Fin.nil ?_⟩
      exact ⟨_, hS.ext, (hS.pick [] rfl).rows, News.of (hS.pick [] rfl).rows rfl, ⟨true, rfl, rfl, hv⟩⟩
    | some F19 =>
      obtain ⟨ad20, lo21, hi22, rfl, rfl⟩ := hK
      change St _ _ _ _ [.ch lo21 hi22 (fun wz => GFX lo21 hi22 wz ad20 F19), .row 24 3 (some ⟨g11, 0, none⟩) 1 1 [.int .i64 Pf, .int .i64 Mf, .slice Af mf.length kf]] at hS
      refine WL.assign rfl rfl ?_
      refine WL.done ?_
      refine W.seq ?_
      refine W.seq ?_
      refine W.region ?_
      refine WL.move rfl rfl ?_
      refine WL.eqlPn Try.underlying26 rfl rfl rfl rfl ?_
      refine WL.move rfl rfl ?_
      refine WL.take rfl ?_
      refine WL.move rfl rfl ?_
      refine WL.take rfl ?_
      refine SL.lit1 (vs := [.slice Ap p.length kp]) hS Try.underlying37 Try.el22 rfl rfl rfl rfl (by simp [Value.oneCell']) rfl ?_
      intro A25 w26 hS
      refine WL.take rfl ?_
      refine SL.call hS (ok_short (ls := ([p] : List (List Int))) ⟨_, _, (hS.rd (i := 0) rfl), ⟨⟨_, _, _, rfl, (Rd.is_m (hS.ro hp))⟩, trivial⟩⟩ hv) Try.func26 rfl Try.nm26 rfl rfl ?_
      rintro _ _ w28 ⟨r29, rfl, rfl, hv⟩ hGw28 hS
      change St _ _ _ _ [.row 22 1 A25 1 1 [.slice Ap p.length kp], .ch lo21 hi22 (fun wz => GFX lo21 hi22 wz ad20 F19), .row 24 3 (some ⟨g11, 0, none⟩) 1 1 [.int .i64 Pf, .int .i64 Mf, .slice Af mf.length kf]] at hS
      refine WL.take rfl ?_
      refine WL.not rfl rfl ?_
      refine WL.pick rfl rfl rfl ?_
      refine WL.done ?_
      refine W.cond2 rfl (fun c30 => ?_) (fun c30 => ?_)
      · have hv := hv.1 (c30)
        refine W.seq ?_
        refine W.region ?_
        refine WL.assign rfl rfl ?_
        refine WL.done ?_
        refine W.ret ?_
        refine ⟨_, rfl, Fin.nil ?_⟩
        exact ⟨_, hS.ext, (hS.pick [] rfl).rows, News.of (hS.pick [] rfl).rows rfl, ⟨true, rfl, rfl, hv⟩⟩
      · have hv := hv.2 (c30)
        refine W.skip ?_
        refine W.seq ?_
        refine W.region ?_
        refine WL.move rfl rfl ?_
        refine WL.move rfl rfl ?_
        refine WL.move rfl rfl ?_
        refine SL.call hS (ok_reverse (GFX.gfr (hS.chunk (i := 1) rfl)) (hS.ro hp) hv) Try.func57 rfl Try.nm57 rfl rfl ?_
        rintro _ _ w31 ⟨x32, r36, A33, k34, rfl, rfl, hv⟩ hGw31 hS
        change St _ _ _ _ [.row 3 1 A33 x32.length k34 (is x32), .row 22 1 A25 1 1 [.slice Ap p.length kp], .ch lo21 hi22 (fun wz => GFX lo21 hi22 wz ad20 F19), .row 24 3 (some ⟨g11, 0, none⟩) 1 1 [.int .i64 Pf, .int .i64 Mf, .slice Af mf.length kf]] at hS
        refine WL.move rfl rfl ?_
        refine WL.extract rfl rfl rfl ?_
        refine WL.extract rfl rfl rfl ?_
        refine WL.assign rfl rfl ?_
        refine WL.assign rfl rfl ?_
        refine WL.done ?_
        refine W.seq ?_
        refine W.seq ?_
        refine W.region ?_
        refine WL.move rfl rfl ?_
        refine WL.lssD rfl rfl rfl ?_
        refine WL.move rfl rfl ?_
        by_cases g37 : n < (0 : Int)
        · have hv := hv.1 g37
          rw [decide_eq_true g37]
          refine WL.pass rfl rfl rfl ?_
          refine WL.pass rfl rfl rfl ?_
          refine WL.pick rfl rfl rfl ?_
          refine WL.move rfl rfl ?_
          refine WL.pass rfl rfl rfl ?_
          refine WL.pass rfl rfl rfl ?_
          refine WL.pass rfl rfl rfl ?_
          refine WL.pass rfl rfl rfl ?_
          refine WL.pass rfl rfl rfl ?_
          refine WL.pick rfl rfl rfl ?_
          refine WL.done ?_
          refine W.condT rfl ?_
          refine W.seq ?_
          refine W.region ?_
          refine WL.move rfl rfl ?_
          refine WL.eqlD rfl rfl rfl ?_
          refine WL.move rfl rfl ?_
          by_cases g38 : r36 = (6 : Int)
          · have hv := hv.1 g38
            rw [decide_eq_true g38]
            refine WL.take rfl ?_
            refine WL.move rfl rfl ?_
            refine WL.take rfl ?_
            refine WL.len Try.underlying22 rfl rfl ?_
            refine WL.take rfl ?_
            refine WL.eqlD rfl rfl rfl ?_
            refine WL.pick rfl rfl rfl ?_
            refine WL.assign rfl rfl ?_
            refine WL.done ?_
            refine W.ret ?_
            refine ⟨_, rfl, Fin.nil ?_⟩
            exact ⟨_, hS.ext, (hS.pick [] rfl).rows, News.of (hS.pick [] rfl).rows rfl, ⟨(decide (((x32.length : Nat) : Int) = (0 : Int))), rfl, rfl, hv⟩⟩
          · have hv := hv.2 g38
            rw [decide_eq_false g38]
            refine WL.pass rfl rfl rfl ?_
            refine WL.pass rfl rfl rfl ?_
            refine WL.pass rfl rfl rfl ?_
            refine WL.pick rfl rfl rfl ?_
            refine WL.assign rfl rfl ?_
            refine WL.done ?_
            refine W.ret ?_
            refine ⟨_, rfl, Fin.nil ?_⟩
            exact ⟨_, hS.ext, (hS.pick [] rfl).rows, News.of (hS.pick [] rfl).rows rfl, ⟨false, rfl, rfl, hv⟩⟩
        · have hv := hv.2 g37
          rw [decide_eq_false g37]
          refine WL.take rfl ?_
          refine WL.move rfl rfl ?_
          refine WL.take rfl ?_
          refine WL.gtrD rfl rfl rfl ?_
          refine WL.pick rfl rfl rfl ?_
          refine WL.move rfl rfl ?_
          by_cases g39 : (4096 : Int) < n
          · have hv := hv.1 g39
            rw [decide_eq_true g39]
            refine WL.pass rfl rfl rfl ?_
            refine WL.pass rfl rfl rfl ?_
            refine WL.pass rfl rfl rfl ?_
            refine WL.pass rfl rfl rfl ?_
            refine WL.pass rfl rfl rfl ?_
            refine WL.pick rfl rfl rfl ?_
            refine WL.done ?_
            refine W.condT rfl ?_
            refine W.seq ?_
            refine W.region ?_
            refine WL.move rfl rfl ?_
            refine WL.eqlD rfl rfl rfl ?_
            refine WL.move rfl rfl ?_
            by_cases g40 : r36 = (6 : Int)
            · have hv := hv.1 g40
              rw [decide_eq_true g40]
              refine WL.take rfl ?_
              refine WL.move rfl rfl ?_
              refine WL.take rfl ?_
              refine WL.len Try.underlying22 rfl rfl ?_
              refine WL.take rfl ?_
              refine WL.eqlD rfl rfl rfl ?_
              refine WL.pick rfl rfl rfl ?_
              refine WL.assign rfl rfl ?_
              refine WL.done ?_
              refine W.ret ?_
              refine ⟨_, rfl, Fin.nil ?_⟩
              exact ⟨_, hS.ext, (hS.pick [] rfl).rows, News.of (hS.pick [] rfl).rows rfl, ⟨(decide (((x32.length : Nat) : Int) = (0 : Int))), rfl, rfl, hv⟩⟩
            · have hv := hv.2 g40
              rw [decide_eq_false g40]
              refine WL.pass rfl rfl rfl ?_
              refine WL.pass rfl rfl rfl ?_
              refine WL.pass rfl rfl rfl ?_
              refine WL.pick rfl rfl rfl ?_
              refine WL.assign rfl rfl ?_
              refine WL.done ?_
              refine W.ret ?_
              refine ⟨_, rfl, Fin.nil ?_⟩
              exact ⟨_, hS.ext, (hS.pick [] rfl).rows, News.of (hS.pick [] rfl).rows rfl, ⟨false, rfl, rfl, hv⟩⟩
          · have hv := hv.2 g39
            rw [decide_eq_false g39]
            refine WL.take rfl ?_
            refine WL.move rfl rfl ?_
            refine WL.take rfl ?_
            refine WL.loadV (cs := [.int .i64 Pf, .int .i64 Mf, .slice Af mf.length kf]) Try.el24 Try.agg24 rfl rfl (Own.vcells (hS.own (i := 3) rfl)) rfl ?_
            refine WL.take rfl ?_
            refine WL.move rfl rfl ?_
            refine WL.take rfl ?_
            refine SL.call hS (ok_rdeg (hS.ro hf) (hS.ro hp) hv) Try.func38 rfl Try.nm38 rfl rfl ?_
            rintro _ _ w41 ⟨r42, rfl, rfl, hv⟩ hGw41 hS
            change St _ _ _ _ [.row 3 1 A33 x32.length k34 (is x32), .row 22 1 A25 1 1 [.slice Ap p.length kp], .ch lo21 hi22 (fun wz => GFX lo21 hi22 wz ad20 F19), .row 24 3 (some ⟨g11, 0, none⟩) 1 1 [.int .i64 Pf, .int .i64 Mf, .slice Af mf.length kf]] at hS
            refine WL.take rfl ?_
            refine WL.lssD rfl rfl rfl ?_
            refine WL.pick rfl rfl rfl ?_
            refine WL.done ?_
            refine W.cond2 rfl (fun c43 => ?_) (fun c43 => ?_)
            · have hv := hv.1 (of_decide_eq_true c43)
              refine W.seq ?_
              refine W.region ?_
              refine WL.move rfl rfl ?_
              refine WL.eqlD rfl rfl rfl ?_
              refine WL.move rfl rfl ?_
              by_cases g44 : r36 = (6 : Int)
              · have hv := hv.1 g44
                rw [decide_eq_true g44]
                refine WL.take rfl ?_
                refine WL.move rfl rfl ?_
                refine WL.take rfl ?_
                refine WL.len Try.underlying22 rfl rfl ?_
                refine WL.take rfl ?_
                refine WL.eqlD rfl rfl rfl ?_
                refine WL.pick rfl rfl rfl ?_
                refine WL.assign rfl rfl ?_
                refine WL.done ?_
                refine W.ret ?_
                refine ⟨_, rfl, Fin.nil ?_⟩
                exact ⟨_, hS.ext, (hS.pick [] rfl).rows, News.of (hS.pick [] rfl).rows rfl, ⟨(decide (((x32.length : Nat) : Int) = (0 : Int))), rfl, rfl, hv⟩⟩
              · have hv := hv.2 g44
                rw [decide_eq_false g44]
                refine WL.pass rfl rfl rfl ?_
                refine WL.pass rfl rfl rfl ?_
                refine WL.pass rfl rfl rfl ?_
                refine WL.pick rfl rfl rfl ?_
                refine WL.assign rfl rfl ?_
                refine WL.done ?_
                refine W.ret ?_
                refine ⟨_, rfl, Fin.nil ?_⟩
                exact ⟨_, hS.ext, (hS.pick [] rfl).rows, News.of (hS.pick [] rfl).rows rfl, ⟨false, rfl, rfl, hv⟩⟩
            · have hv := hv.2 (of_decide_eq_false c43)
              refine W.skip ?_
              refine W.seq ?_
              refine W.seq ?_
              refine W.region ?_
              refine WL.move rfl rfl ?_
              refine WL.neqD rfl rfl rfl ?_
              refine WL.move rfl rfl ?_
              by_cases g45 : r36 ≠ (0 : Int)
              · have hv := hv.1 g45
                rw [decide_eq_true g45]
                refine WL.pass rfl rfl rfl ?_
                refine WL.pass rfl rfl rfl ?_
                refine WL.pass rfl rfl rfl ?_
                refine WL.pass rfl rfl rfl ?_
                refine WL.pass rfl rfl rfl ?_
                refine WL.pick rfl rfl rfl ?_
                refine WL.move rfl rfl ?_
                refine WL.pass rfl rfl rfl ?_
                refine WL.pass rfl rfl rfl ?_
                refine WL.pass rfl rfl rfl ?_
                refine WL.pass rfl rfl rfl ?_
                refine WL.pass rfl rfl rfl ?_
                refine WL.pass rfl rfl rfl ?_
                refine WL.pick rfl rfl rfl ?_
                refine WL.done ?_
                refine W.condT rfl ?_
                refine W.seq ?_
                refine W.region ?_
                refine WL.assign rfl rfl ?_
                refine WL.done ?_
                refine W.ret ?_
                refine ⟨_, rfl, Fin.nil ?_⟩
                exact ⟨_, hS.ext, (hS.pick [] rfl).rows, News.of (hS.pick [] rfl).rows rfl, ⟨false, rfl, rfl, hv⟩⟩
              · have hv := hv.2 g45
                rw [decide_eq_false g45]
                refine WL.take rfl ?_
                refine WL.move rfl rfl ?_
                refine WL.take rfl ?_
                refine WL.len Try.underlying22 rfl rfl ?_
                refine WL.take rfl ?_
                refine WL.move rfl rfl ?_
                refine WL.take rfl ?_
                obtain ⟨o46, hv⟩ := hv
                refine WL.add (r := (n + (1 : Int))) rfl rfl (wr o46) rfl ?_
                refine WL.take rfl ?_
                refine WL.gtrD rfl rfl rfl ?_
                refine WL.pick rfl rfl rfl ?_
                refine WL.move rfl rfl ?_
                by_cases g47 : (n + (1 : Int)) < ((x32.length : Nat) : Int)
                · have hv := hv.1 g47
                  rw [decide_eq_true g47]
                  refine WL.pass rfl rfl rfl ?_
                  refine WL.pass rfl rfl rfl ?_
                  refine WL.pass rfl rfl rfl ?_
                  refine WL.pass rfl rfl rfl ?_
                  refine WL.pass rfl rfl rfl ?_
                  refine WL.pass rfl rfl rfl ?_
                  refine WL.pick rfl rfl rfl ?_
                  refine WL.done ?_
                  refine W.condT rfl ?_
                  refine W.seq ?_
                  refine W.region ?_
                  refine WL.assign rfl rfl ?_
                  refine WL.done ?_
                  refine W.ret ?_
                  refine ⟨_, rfl, Fin.nil ?_⟩
                  exact ⟨_, hS.ext, (hS.pick [] rfl).rows, News.of (hS.pick [] rfl).rows rfl, ⟨false, rfl, rfl, hv⟩⟩
                · have hv := hv.2 g47
                  rw [decide_eq_false g47]
                  refine WL.take rfl ?_
                  refine WL.move rfl rfl ?_
                  refine WL.take rfl ?_
                  refine WL.loadV (cs := [.int .i64 Pf, .int .i64 Mf, .slice Af mf.length kf]) Try.el24 Try.agg24 rfl rfl (Own.vcells (hS.own (i := 3) rfl)) rfl ?_
                  refine WL.take rfl ?_
                  refine WL.move rfl rfl ?_
                  refine WL.take rfl ?_
                  refine SL.call hS (ok_rcanon (hS.ro hf) (hS.rd (i := 0) rfl) hv) Try.func24 rfl Try.nm24 rfl rfl ?_
                  rintro _ _ w48 ⟨x49, A50, k51, rfl, rfl, hv⟩ hGw48 hS
                  change St _ _ _ _ [.row 3 1 A50 x49.length k51 (is x49), .row 3 1 A33 x32.length k34 (is x32), .row 22 1 A25 1 1 [.slice Ap p.length kp], .ch lo21 hi22 (fun wz => GFX lo21 hi22 wz ad20 F19), .row 24 3 (some ⟨g11, 0, none⟩) 1 1 [.int .i64 Pf, .int .i64 Mf, .slice Af mf.length kf]] at hS
                  refine WL.take rfl ?_
                  refine SL.call hS (ok_lsame (hS.rd (i := 1) rfl) (hS.rd (i := 0) rfl) hv) Try.func23 rfl Try.nm23 rfl rfl ?_
                  rintro _ _ w53 ⟨r54, rfl, rfl, hv⟩ hGw53 hS
                  change St _ _ _ _ [.row 3 1 A50 x49.length k51 (is x49), .row 3 1 A33 x32.length k34 (is x32), .row 22 1 A25 1 1 [.slice Ap p.length kp], .ch lo21 hi22 (fun wz => GFX lo21 hi22 wz ad20 F19), .row 24 3 (some ⟨g11, 0, none⟩) 1 1 [.int .i64 Pf, .int .i64 Mf, .slice Af mf.length kf]] at hS
                  refine WL.take rfl ?_
                  refine WL.not rfl rfl ?_
                  refine WL.pick rfl rfl rfl ?_
                  refine WL.done ?_
                  refine W.cond2 rfl (fun c55 => ?_) (fun c55 => ?_)
                  · have hv := hv.1 (c55)
                    refine W.seq ?_
                    refine W.region ?_
                    refine WL.assign rfl rfl ?_
                    refine WL.done ?_
                    refine W.ret ?_
                    refine ⟨_, rfl, Fin.nil ?_⟩
                    exact ⟨_, hS.ext, (hS.pick [] rfl).rows, News.of (hS.pick [] rfl).rows rfl, ⟨false, rfl, rfl, hv⟩⟩
                  · have hv := hv.2 (c55)
                    refine W.skip ?_
                    refine W.seq ?_
                    refine W.seq ?_
                    refine W.region ?_
                    refine WL.assign rfl rfl ?_
                    refine WL.done ?_
                    refine W.block ?_
                    obtain ⟨I59, μ60, hv, hk98⟩ := hv
                    change St _ _ _ _ [.row 3 1 A50 x49.length k51 (is x49), .row 3 1 A33 x32.length k34 (is x32), .row 22 1 A25 1 1 [.slice Ap p.length kp], .ch lo21 hi22 (fun wz => GFX lo21 hi22 wz ad20 F19), .row 24 3 (some ⟨g11, 0, none⟩) 1 1 [.int .i64 Pf, .int .i64 Mf, .slice Af mf.length kf]] at hS
                    refine W.loop (σ := Int) (fun z58 w1 => I59 z58 ∧ St TT w none w1 [.row 3 1 A50 x49.length k51 (is x49), .row 3 1 A33 x32.length k34 (is x32), .row 22 1 A25 1 1 [.slice Ap p.length kp], .ch lo21 hi22 (fun wz => GFX lo21 hi22 wz ad20 F19), .row 24 3 (some ⟨g11, 0, none⟩) 1 1 [.int .i64 Pf, .int .i64 Mf, .slice Af mf.length kf]]) (fun z58 => [(1, .slice Ap p.length kp), (2, .int .i64 n), (3, .pointer (some ⟨g11, 0, none⟩)), (6, .bool false), (7, .pointer (some ad20)), (8, .slice A33 x32.length k34), (10, .int .i64 z58)]) (fun z58 => μ60 z58) (0 : Int) ⟨hv, hS⟩ ⟨rfl, rfl, rfl, rfl, rfl, rfl, rfl, trivial⟩ ?_
                    rintro z58 w61 ⟨hv, hS⟩
                    have hv := hk98 z58 hv
                    refine W.seq ?_
                    refine W.seq ?_
                    refine W.region ?_
                    refine WL.move rfl rfl ?_
                    refine WL.move rfl rfl ?_
                    refine WL.leqD rfl rfl rfl ?_
                    refine WL.done ?_
                    refine W.cond2 rfl (fun c62 => ?_) (fun c62 => ?_)
                    · have hv := hv.1 (of_decide_eq_true c62)
                      refine W.skip ?_
                      refine W.seq ?_
                      refine W.block ?_
                      refine W.seq ?_
                      obtain ⟨r67, o69, hv⟩ := hv
                      obtain ⟨o75, hv⟩ := hv
                      obtain ⟨r77, o79, hv⟩ := hv
                      have hS0 := hS
                      refine W.drawX 11 (fun _ => false) (fun _ => none) [⟨[], [3], false⟩, ⟨[], [8], true⟩, ⟨[], [10], true⟩, ⟨[0, 1, 2], [], false⟩, ⟨[], [3], false⟩, ⟨[], [1], true⟩, ⟨[], [2], true⟩, ⟨[], [10], true⟩, ⟨[6, 7], [], true⟩, ⟨[4, 5, 8], [], false⟩, ⟨[3, 9], [], true⟩] [[(3, .pointer (some ⟨g11, 0, none⟩))], [(8, .slice A33 x32.length k34)], [(10, .int .i64 z58)], [], [(3, .pointer (some ⟨g11, 0, none⟩))], [(1, .slice Ap p.length kp)], [(2, .int .i64 n)], [(10, .int .i64 z58)], [], [], []] (fun iQ => [fun v _ => v = .agg #[.int .i64 Pf, .int .i64 Mf, .slice Af mf.length kf], fun v _ => v = .slice A33 x32.length k34, fun v _ => v = .int .i64 z58, fun v _ => v = .int .i64 r67, fun v _ => v = .agg #[.int .i64 Pf, .int .i64 Mf, .slice Af mf.length kf], fun v _ => v = .slice Ap p.length kp, fun v _ => v = .int .i64 n, fun v _ => v = .int .i64 z58, fun v _ => v = .int .i64 (n - z58), fun v _ => v = .int .i64 r77, fun v _ => v = .bool (decide (r67 ≠ r77))].getD iQ (fun _ _ => True)) Try.mixed (by kernel_rfl) ?_ (by kernel_rfl) ?_ ?_
                      · refine Vs_monoT _ ?_
                        intro VQ hVQ vQ wQ1 wQ2 hQ1 hQ2
                        simp only [List.mem_cons, List.not_mem_nil, or_false] at hVQ
                        rcases hVQ with rfl | rfl | rfl | rfl | rfl | rfl | rfl | rfl | rfl | rfl | rfl
                        · exact hQ1
                        · exact hQ1
                        · exact hQ1
                        · exact hQ1
                        · exact hQ1
                        · exact hQ1
                        · exact hQ1
                        · exact hQ1
                        · exact hQ1
                        · exact hQ1
                        · exact hQ1
                      · refine ⟨⟨rfl, ⟨rfl, trivial⟩, ?_⟩, ⟨rfl, ⟨rfl, trivial⟩, ?_⟩, ⟨rfl, ⟨rfl, trivial⟩, ?_⟩, ⟨rfl, trivial, ?_⟩, ⟨rfl, ⟨rfl, trivial⟩, ?_⟩, ⟨rfl, ⟨rfl, trivial⟩, ?_⟩, ⟨rfl, ⟨rfl, trivial⟩, ?_⟩, ⟨rfl, ⟨rfl, trivial⟩, ?_⟩, ⟨rfl, trivial, ?_⟩, ⟨rfl, trivial, ?_⟩, ⟨rfl, trivial, ?_⟩, trivial⟩
                        · intro w63 hE
                          have hE := hE rfl
                          have hS := hS.grow hE
                          intro RR
                          refine WL.loadV (cs := [.int .i64 Pf, .int .i64 Mf, .slice Af mf.length kf]) Try.el24 Try.agg24 rfl rfl (Own.vcells (hS.own (i := 4) rfl)) rfl ?_
                          exact WL.done ⟨_, rfl, ext_refl _, rfl, (fun h => absurd h (by decide)), (fun j h => by cases h)⟩
                        · intro w64 hE
                          intro RR
                          refine WL.move rfl rfl ?_
                          exact WL.done ⟨_, rfl, rfl, rfl, (fun h => absurd h (by decide)), (fun j h => by cases h)⟩
                        · intro w65 hE
                          intro RR
                          refine WL.move rfl rfl ?_
                          exact WL.done ⟨_, rfl, rfl, rfl, (fun h => absurd h (by decide)), (fun j h => by cases h)⟩
                        · intro w66 hE
                          have hE := hE rfl
                          have hS := hS.grow hE
                          rintro _ rfl
                          rintro _ rfl
                          rintro _ rfl
                          intro RR
                          refine WL.call Try.func58 rfl Try.nm58 rfl rfl (calls_un (ok_rat (hS.ro hf) (hS.rd (i := 1) rfl) o69)) ?_
                          rintro _ w68 ⟨_, hGw68, hRww68, hNww68, r67q, rfl, rfl, he⟩
                          subst he
                          exact WL.done ⟨_, rfl, hGw68, rfl, (fun h => absurd h (by decide)), (fun j h => by cases h)⟩
                        · intro w70 hE
                          have hE := hE rfl
                          have hS := hS.grow hE
                          intro RR
                          refine WL.loadV (cs := [.int .i64 Pf, .int .i64 Mf, .slice Af mf.length kf]) Try.el24 Try.agg24 rfl rfl (Own.vcells (hS.own (i := 4) rfl)) rfl ?_
                          exact WL.done ⟨_, rfl, ext_refl _, rfl, (fun h => absurd h (by decide)), (fun j h => by cases h)⟩
                        · intro w71 hE
                          intro RR
                          refine WL.move rfl rfl ?_
                          exact WL.done ⟨_, rfl, rfl, rfl, (fun h => absurd h (by decide)), (fun j h => by cases h)⟩
                        · intro w72 hE
                          intro RR
                          refine WL.move rfl rfl ?_
                          exact WL.done ⟨_, rfl, rfl, rfl, (fun h => absurd h (by decide)), (fun j h => by cases h)⟩
                        · intro w73 hE
                          intro RR
                          refine WL.move rfl rfl ?_
                          exact WL.done ⟨_, rfl, rfl, rfl, (fun h => absurd h (by decide)), (fun j h => by cases h)⟩
                        · intro w74 hE
                          rintro _ rfl
                          rintro _ rfl
                          intro RR
                          refine WL.sub (r := (n - z58)) rfl rfl (wr o75) rfl ?_
                          exact WL.done ⟨_, rfl, rfl, rfl, (fun h => absurd h (by decide)), (fun j h => by cases h)⟩
                        · intro w76 hE
                          have hE := hE rfl
                          have hS := hS.grow hE
                          rintro _ rfl
                          rintro _ rfl
                          rintro _ rfl
                          intro RR
                          refine WL.call Try.func58 rfl Try.nm58 rfl rfl (calls_un (ok_rat (hS.ro hf) (hS.ro hp) o79)) ?_
                          rintro _ w78 ⟨_, hGw78, hRww78, hNww78, r77q, rfl, rfl, he⟩
                          subst he
                          exact WL.done ⟨_, rfl, hGw78, rfl, (fun h => absurd h (by decide)), (fun j h => by cases h)⟩
                        · intro w80 hE
                          rintro _ rfl
                          rintro _ rfl
                          intro RR
                          refine WL.neqD rfl rfl rfl ?_
                          exact WL.done ⟨_, rfl, rfl, rfl, (fun h => absurd h (by decide)), (fun j h => by cases h)⟩
                      · intro vals w81 hT hVs hAp hCp
                        have hS := hS.grow hT
                        have hv0 : vals 0 = _ := hVs 0 (by decide)
                        have hv1 : vals 1 = _ := hVs 1 (by decide)
                        have hv2 : vals 2 = _ := hVs 2 (by decide)
                        have hv3 : vals 3 = _ := hVs 3 (by decide)
                        have hv4 : vals 4 = _ := hVs 4 (by decide)
                        have hv5 : vals 5 = _ := hVs 5 (by decide)
                        have hv6 : vals 6 = _ := hVs 6 (by decide)
                        have hv7 : vals 7 = _ := hVs 7 (by decide)
                        have hv8 : vals 8 = _ := hVs 8 (by decide)
                        have hv9 : vals 9 = _ := hVs 9 (by decide)
                        have hv10 : vals 10 = _ := hVs 10 (by decide)
                        rw [show (List.filterMap (fun i => Option.map (fun t => (t, vals i)) (dstAt _ i)) (List.range _)) = [(74, .agg #[.int .i64 Pf, .int .i64 Mf, .slice Af mf.length kf]), (75, .slice A33 x32.length k34), (76, .int .i64 z58), (77, .int .i64 r67), (78, .agg #[.int .i64 Pf, .int .i64 Mf, .slice Af mf.length kf]), (79, .slice Ap p.length kp), (80, .int .i64 n), (81, .int .i64 z58), (82, .int .i64 (n - z58)), (83, .int .i64 r77), (84, .bool (decide (r67 ≠ r77)))] from by
                          show [(74, vals 0), (75, vals 1), (76, vals 2), (77, vals 3), (78, vals 4), (79, vals 5), (80, vals 6), (81, vals 7), (82, vals 8), (83, vals 9), (84, vals 10)] = _
                          rw [hv0, hv1, hv2, hv3, hv4, hv5, hv6, hv7, hv8, hv9, hv10]]
                        refine WA.done (by decide +kernel) ?_
                        refine W.cond2 rfl (fun c82 => ?_) (fun c82 => ?_)
                        · have hv := hv.1 (of_decide_eq_true c82)
                          refine W.seq ?_
                          refine W.region ?_
                          refine WL.assign rfl rfl ?_
                          refine WL.done ?_
                          refine W.ret ?_
                          refine ⟨_, rfl, Fin.nil ?_⟩
                          exact ⟨_, hS.ext, (hS.pick [] rfl).rows, News.of (hS.pick [] rfl).rows rfl, ⟨false, rfl, rfl, hv⟩⟩
                        · have hv := hv.2 (of_decide_eq_false c82)
                          refine W.skip ?_
                          refine W.region ?_
                          refine WL.move rfl rfl ?_
                          obtain ⟨o83, hv⟩ := hv
                          refine WL.add (r := (z58 + (1 : Int))) rfl rfl (wr o83) rfl ?_
                          refine WL.assign rfl rfl ?_
                          refine WL.done ?_
                          change St _ _ _ _ [.row 3 1 A50 x49.length k51 (is x49), .row 3 1 A33 x32.length k34 (is x32), .row 22 1 A25 1 1 [.slice Ap p.length kp], .ch lo21 hi22 (fun wz => GFX lo21 hi22 wz ad20 F19), .row 24 3 (some ⟨g11, 0, none⟩) 1 1 [.int .i64 Pf, .int .i64 Mf, .slice Af mf.length kf]] at hS
                          exact ⟨(z58 + (1 : Int)), ⟨rfl, rfl, rfl, rfl, rfl, rfl, rfl, trivial⟩, hv.2, rfl, hv.1, hS⟩
                    · have hv := hv.2 (of_decide_eq_false c62)
                      refine W.exit ?_
                      refine W.seq ?_
                      refine W.region ?_
                      refine WL.move rfl rfl ?_
                      refine WL.move rfl rfl ?_
                      refine WL.move rfl rfl ?_
                      refine SL.call hS (ok_reverse (GFX.gfr (hS.chunk (i := 3) rfl)) (hS.rd (i := 1) rfl) hv) Try.func57 rfl Try.nm57 rfl rfl ?_
                      rintro _ _ w84 ⟨x85, r89, A86, k87, rfl, rfl, hv⟩ hGw84 hS
                      change St _ _ _ _ [.row 3 1 A86 x85.length k87 (is x85), .row 3 1 A50 x49.length k51 (is x49), .row 3 1 A33 x32.length k34 (is x32), .row 22 1 A25 1 1 [.slice Ap p.length kp], .ch lo21 hi22 (fun wz => GFX lo21 hi22 wz ad20 F19), .row 24 3 (some ⟨g11, 0, none⟩) 1 1 [.int .i64 Pf, .int .i64 Mf, .slice Af mf.length kf]] at hS
                      refine WL.move rfl rfl ?_
                      refine WL.extract rfl rfl rfl ?_
                      refine WL.extract rfl rfl rfl ?_
                      refine WL.assign rfl rfl ?_
                      refine WL.assign rfl rfl ?_
                      refine WL.done ?_
                      refine W.seq ?_
                      refine W.region ?_
                      refine WL.move rfl rfl ?_
                      refine WL.eqlD rfl rfl rfl ?_
                      refine WL.move rfl rfl ?_
                      by_cases g90 : r89 = (0 : Int)
                      · have hv := hv.1 g90
                        rw [decide_eq_true g90]
                        refine WL.take rfl ?_
                        refine WL.move rfl rfl ?_
                        refine WL.take rfl ?_
                        refine WL.loadV (cs := [.int .i64 Pf, .int .i64 Mf, .slice Af mf.length kf]) Try.el24 Try.agg24 rfl rfl (Own.vcells (hS.own (i := 5) rfl)) rfl ?_
                        refine WL.take rfl ?_
                        refine WL.move rfl rfl ?_
                        refine WL.take rfl ?_
                        refine SL.call hS (ok_rcanon (hS.ro hf) (hS.ro hp) hv) Try.func24 rfl Try.nm24 rfl rfl ?_
                        rintro _ _ w91 ⟨x92, A93, k94, rfl, rfl, hv⟩ hGw91 hS
                        change St _ _ _ _ [.row 3 1 A93 x92.length k94 (is x92), .row 3 1 A86 x85.length k87 (is x85), .row 3 1 A50 x49.length k51 (is x49), .row 3 1 A33 x32.length k34 (is x32), .row 22 1 A25 1 1 [.slice Ap p.length kp], .ch lo21 hi22 (fun wz => GFX lo21 hi22 wz ad20 F19), .row 24 3 (some ⟨g11, 0, none⟩) 1 1 [.int .i64 Pf, .int .i64 Mf, .slice Af mf.length kf]] at hS
                        refine WL.take rfl ?_
                        refine SL.call hS (ok_lsame (hS.rd (i := 1) rfl) (hS.rd (i := 0) rfl) hv) Try.func23 rfl Try.nm23 rfl rfl ?_
                        rintro _ _ w96 ⟨r97, rfl, rfl, hv⟩ hGw96 hS
                        change St _ _ _ _ [.row 3 1 A93 x92.length k94 (is x92), .row 3 1 A86 x85.length k87 (is x85), .row 3 1 A50 x49.length k51 (is x49), .row 3 1 A33 x32.length k34 (is x32), .row 22 1 A25 1 1 [.slice Ap p.length kp], .ch lo21 hi22 (fun wz => GFX lo21 hi22 wz ad20 F19), .row 24 3 (some ⟨g11, 0, none⟩) 1 1 [.int .i64 Pf, .int .i64 Mf, .slice Af mf.length kf]] at hS
                        refine WL.pick rfl rfl rfl ?_
                        refine WL.assign rfl rfl ?_
                        refine WL.done ?_
                        refine W.ret ?_
                        refine ⟨_, rfl, Fin.nil ?_⟩
                        exact ⟨_, hS.ext, (hS.pick [] rfl).rows, News.of (hS.pick [] rfl).rows rfl, ⟨r97, rfl, rfl, hv⟩⟩
                      · have hv := hv.2 g90
                        rw [decide_eq_false g90]
                        refine WL.pass rfl rfl rfl ?_
                        refine WL.pass rfl rfl rfl ?_
                        refine WL.pass rfl rfl rfl ?_
                        refine WL.pass rfl rfl rfl ?_
                        refine WL.pass rfl rfl rfl ?_
                        refine WL.pick rfl rfl rfl ?_
                        refine WL.assign rfl rfl ?_
                        refine WL.done ?_
                        refine W.ret ?_
                        refine ⟨_, rfl, Fin.nil ?_⟩
                        exact ⟨_, hS.ext, (hS.pick [] rfl).rows, News.of (hS.pick [] rfl).rows rfl, ⟨false, rfl, rfl, hv⟩⟩

end Go.Proofs.Ytmdigamgojfjdaa
set_option linter.unusedVariables false
set_option linter.unusedSimpArgs false
namespace Go.Proofs.Ytmdigamgojfjdaa
open Ks
/-! ### greatest common divisors, values, derivatives, roots -/
section
variable {k : Ks} {F : GFv} {P M : Int} {mf : List Int}
theorem rvs_su (f : Pl k.E) (n : Nat) : Su (rvs k f n) (n + 1) := fun i hi => if_neg (by omega)
theorem w_reverse {p : List Int} {n : Int} {Q : List Int × Int → Prop} (K : GFk F k.p k.m k.v k.g) (hp : p.length ≤ 100000) (h6 : ∀ r, DegI (k.pol p) r → (n < r ∨ n < 0 ∨ 4096 < n) → Q ([], 6)) (h0 : ∀ m : Nat, n = m → m ≤ 4096 → Su (k.pol p) (m + 1) → Q (k.L (rvs k (k.pol p) m), 0)) : V_reverse F p n Q := by
  refine w_deg K fun r hr hlt => ⟨fun h => h6 r hr (.inl h), fun h1 => ⟨fun h => h6 r hr (.inr (.inl h)), fun h2 => ⟨fun h => h6 r hr (.inr (.inr h)), fun h3 => ?_⟩⟩⟩
  obtain ⟨m, rfl⟩ := Int.eq_ofNat_of_zero_le (show 0 ≤ n by omega)
  have hsu : Su (k.pol p) (m + 1) := by
    rcases hr with ⟨_, h4⟩ | ⟨d, h4, h5⟩
    · rw [h4]; exact Su.zero _
    · exact h5.2.mono (by omega)
  have hQ := h0 m rfl (by omega) hsu
  have e1 : (m : Int) + 1 = ((m + 1 : Nat) : Int) := by push_cast; rfl
  rw [e1, Int.toNat_natCast]
  refine ⟨small (by omega) (by omega), ⟨by omega, by omega, by omega⟩, Fill (fun i => k.co (k.pol p (m - i))) (m + 1), fun x z => ((m + 1 : Nat) - z).toNat, Fill.start _ _, ?_⟩
  rintro x _ ⟨j, rfl, hj, hl, hv⟩
  dsimp only
  refine ⟨fun hz => ⟨small (by omega) (by omega), ?_⟩, fun hz => ?_⟩
  · rw [show (m : Int) - (j : Int) = ((m - j : Nat) : Int) by omega]
    exact w_coef K ⟨⟨by omega, by omega⟩, small (by omega) (by omega), Fill.step ⟨j, rfl, hj, hl, hv⟩ (by omega) rfl, by omega⟩
  · obtain ⟨he, hpol⟩ := fill_pol (k := k) (f := rvs k (k.pol p) m) hl (fun i hi => by rw [hv i (by omega), rvs, if_pos (by omega)]) (rvs_su _ m)
    refine w_trim K (by omega) he fun i h4 h5 h6 => ⟨⟨h4, by omega⟩, ?_⟩
    rw [h6, hpol]; exact hQ
end
end Go.Proofs.Ytmdigamgojfjdaa
set_option linter.unusedVariables false
set_option linter.unusedSimpArgs false
namespace Go.Proofs.Ytmdigamgojfjdaa
open Ks
section
variable {k : Ks} {F : GFv} {P M : Int} {mf : List Int}
theorem rvs_rvs {f : Pl k.E} {n : Nat} (h : Su f (n + 1)) : rvs k (rvs k f n) n = f := Pl.ext fun i => by
  unfold rvs
  by_cases hi : i ≤ n
  · rw [if_pos hi, if_pos (by omega), show n - (n - i) = i by omega]
  · rw [if_neg hi, h i (by omega)]
theorem law_PolyReverses (p : List Int) (n : Int) : V_PolyReverses P M mf p n (fun b => b = true) := by
  refine w_alive ⟨fun h => absurd h (by decide), fun _ => w_made (fun _ => rfl) fun F k K hF => w_short1 rfl fun hp => ?_⟩
  have hpf := pol_fs (k := k) p
  have hlp := L_len (pol_su (k := k) p)
  refine w_reverse K (by omega) (fun r hr hc => ?_) fun m e hm hs => ?_
  · refine ⟨fun _ => ⟨fun _ => rfl, fun h => absurd rfl h⟩, fun h1 => ⟨fun _ => ⟨fun _ => rfl, fun h => absurd rfl h⟩, fun h2 => w_rdeg hF (by omega) ⟨fun _ => ⟨fun _ => rfl, fun h => absurd rfl h⟩, fun h3 => ?_⟩⟩⟩
    have := hr.uniq (degI_L hpf)
    omega
  · subst e
    have hl1 := L_len (k := k) hs
    have hr := rvs_su (k := k) (k.pol p) m
    have hl2 := L_len (k := k) hr
    have hrf : Fs (rvs k (k.pol p) m) := ⟨_, hr⟩
    refine ⟨fun h => by omega, fun _ => ⟨fun h => by omega, fun _ => w_rdeg hF (by omega) ⟨fun h => by omega, fun _ => f0 ⟨small (by omega) (by omega), fun h => by omega, fun _ => w_rcanon hF (by omega) (w_same (by omega) (L_idem hrf).symm (nb ?_))⟩⟩⟩⟩
    refine ⟨fun z => ∃ j : Nat, z = j ∧ j ≤ m + 1, fun z => ((m + 1 : Nat) - z).toNat, ⟨0, rfl, Nat.zero_le _⟩, ?_⟩
    rintro _ ⟨j, rfl, hj⟩
    dsimp only
    refine ⟨fun hz => ⟨_, w_rat hF rfl, small (by omega) (by omega), k.co (k.pol p (m - j)), ?_, fun hne => absurd ?_ hne, fun _ => ⟨small (by omega) (by omega), ⟨j + 1, by push_cast; rfl, by omega⟩, by omega⟩⟩, fun hz => ?_⟩
    · rw [show (m : Int) - (j : Int) = ((m - j : Nat) : Int) by omega]
      exact w_rat hF rfl
    · rw [pol_L hrf, rvs, if_pos (by omega)]
    · refine w_reverse K (by omega) (fun r hr2 hc => ?_) fun m' e' hm' hs' => ?_
      · rw [pol_L hrf] at hr2
        exfalso
        rcases hr2 with ⟨h1, _⟩ | ⟨d, h1, h2⟩
        · omega
        · have := h2.lt hr; omega
      · obtain rfl : m = m' := by omega
        rw [pol_L hrf, rvs_rvs hs]
        dsimp only
        exact t0 (w_rcanon hF (by omega) (w_same (by omega) rfl rfl))
end
end Go.Proofs.Ytmdigamgojfjdaa
