/- What only this law leans on. -/
import Derived.Test.YtmdigamgojfjdaaPolyAddsG12
namespace Go.Proofs.Ytmdigamgojfjdaa
open Go.RowKit

section
variable {P : Program} {n : Nat} {ro : Option Nat} {df : List Deferred} {N : Post} {L : Fr} {w : World} {ops : Array Oper} {rest : List Oper}
variable {d : Nat} {ty : TypeId} {pos : String} {af : Array Edge}

theorem run_equalIn_bool {P : Program} {w : World} {t : TypeId} (ht : P.underlying t = some .bool) (k : Nat) (a b : Bool) : (Op.equalIn (k + 1) t (.bool a) (.bool b)).run P w = .ok (a == b) w := by
  rw [Op.equalIn]
  simp [run_underlying ht]
theorem run_equal_bool {P : Program} {w : World} {t : TypeId} (ht : P.underlying t = some .bool) (a b : Bool) : (Op.equal t (.bool a) (.bool b)).run P w = .ok (a == b) w := run_equalIn_bool ht 9999 a b
theorem WL.eqB {x y : Operand} {a b r : Bool} {tx tb : TypeId} (hx : ev L x = some (.bool a)) (hy : ev L y = some (.bool b)) (ht : P.underlying tx = some .bool) (hr : (a == b) = r) (hn : Nat.blt d n = true) (h : WL P n ro df ops rest N ((d, .bool r) :: L) w) :
    WL P n ro df ops (⟨some d, .binOp .eql tx x y tb, ty, pos, af, none⟩ :: rest) N L w :=
  WL.val rfl rfl hn (fun _ ha => by subst hr; cases a <;> cases b <;> simp [execOp, eqGuard, binOp, ha.ev hx, ha.ev hy, run_equal_bool ht]) h
end
end Go.Proofs.Ytmdigamgojfjdaa
set_option linter.unusedVariables false
namespace Go.Proofs.Ytmdigamgojfjdaa
open Go.RowKit
theorem Try.nm61 : (Try.f61.name == "runtime.NumGoroutine") = false := by kernel_rfl
end Go.Proofs.Ytmdigamgojfjdaa
set_option linter.unusedSimpArgs false
set_option linter.unusedVariables false
namespace Go.Proofs.Ytmdigamgojfjdaa
open Go.RowKit
def V_rfromRoots (Pf : Int) (Mf : Int) (mf : List Int) (rs : List Int) (Q : List Int → Prop) : Prop :=
  ∃ (I31 : List Int → Int → Prop) (μ32 : List Int → Int → Nat), I31 ([(1 : Int)] : List Int) (0 : Int) ∧ ∀ (x26 : List Int) (z30 : Int), (I31 x26 z30 → (((z30 < ((rs.length : Nat) : Int)) → ((0 ≤ z30 ∧ z30 < (rs.length : Nat)) ∧ (∃ (r44 : Int), V_rNeg Pf Mf mf (gi rs z30) (fun q => q = r44) ∧ (∃ (x55 : List Int), V_rpmul Pf Mf mf x26 ([r44, (1 : Int)] : List Int) (fun q => q = x55) ∧ ((I64 (z30 + (1 : Int))) ∧ (I31 x55 (z30 + (1 : Int)) ∧ μ32 x55 (z30 + (1 : Int)) < μ32 x26 z30)))))) ∧ (¬ (z30 < ((rs.length : Nat) : Int)) → Q x26)))
theorem ok_rfromRoots {w : World} {Q : List Int → Prop} {Pf : Int} {Mf : Int} {mf : List Int} {rs : List Int} {Bf : Nat} {Af : Option Addr} {nf kf : Nat} (hf : Rd Bf w 1 Af nf kf (is mf)) {Brs : Nat} {Ars : Option Addr} {nrs krs : Nat} (hrs : Rd Brs w 1 Ars nrs krs (is rs)) (hv : V_rfromRoots Pf Mf mf rs Q) :
    Calls Try.prog 61 #[.agg #[.int .i64 Pf, .int .i64 Mf, .slice Af nf kf], .slice Ars nrs krs] w fun e w' => ∃ v Qr, e = .returned v ∧ w.grownBy w' none ∧ Rows w.heap.size none w' Qr ∧ News w.heap.size Qr ∧ ∃ (r0 : List Int) (Ar0 : Option Addr) (cr0 : Nat), v = .slice Ar0 r0.length cr0 ∧ Qr = [.row 3 1 Ar0 r0.length cr0 (is r0)] ∧ Q r0 := by
  have hnf := hf.ilen
  subst hnf
  have hnrs := hrs.ilen
  subst hnrs
  refine calls_swap ?_
  refine calls_of_W (vs := [.agg #[.int .i64 Pf, .int .i64 Mf, .slice Af mf.length kf], .slice Ars rs.length krs]) [4] Try.func61 rfl rfl rfl rfl ?_
  have hS := St.start w
  unfold V_rfromRoots at hv
  refine W.seq ?_
  refine W.region ?_
  refine SL.box (z := 3) (cs := [.int .i64 Pf, .int .i64 Mf, .slice Af mf.length kf]) hS rfl rfl rfl rfl ?_
  intro g11 w12 hS
  refine WL.assign rfl rfl ?_
  refine WL.done ?_
  refine W.seq ?_
  refine W.region ?_
  refine SL.lit1 (vs := is ([(1 : Int)] : List Int)) hS Try.underlying22 Try.el3 rfl rfl rfl rfl (is_one _) rfl ?_
  intro A13 w14 hS
  refine WL.assign rfl rfl ?_
  refine WL.done ?_
  refine W.seq ?_
  refine W.seq ?_
  refine W.region ?_
  refine WL.assign rfl rfl ?_
  refine WL.done ?_
  refine W.block ?_
  obtain ⟨I31, μ32, hv, hk67⟩ := hv
  have hm0 : 1 = ([(1 : Int)] : List Int).length := (hS.rd (i := 0) rfl).ilen.symm
  have hS := hS.relen (i := 0) rfl hm0
  change St _ _ _ _ [.row 3 1 A13 ([(1 : Int)] : List Int).length 1 (is ([(1 : Int)] : List Int)), .row 24 3 (some ⟨g11, 0, none⟩) 1 1 [.int .i64 Pf, .int .i64 Mf, .slice Af mf.length kf]] at hS
  refine W.loop (σ := List Int × Int × Option Addr × Nat) (fun q w1 => match q with | (x26, z30, A27, k28) => I31 x26 z30 ∧ St TT w none w1 [.row 3 1 A27 x26.length k28 (is x26), .row 24 3 (some ⟨g11, 0, none⟩) 1 1 [.int .i64 Pf, .int .i64 Mf, .slice Af mf.length kf]]) (fun q => match q with | (x26, z30, A27, k28) => [(1, .slice Ars rs.length krs), (2, .pointer (some ⟨g11, 0, none⟩)), (4, .slice none 0 0), (5, .slice A27 x26.length k28), (6, .int .i64 z30)]) (fun q => match q with | (x26, z30, A27, k28) => μ32 x26 z30) (([(1 : Int)] : List Int), (0 : Int), A13, 1) ⟨hv, hS⟩ ⟨rfl, rfl, rfl, (sm (by first | rfl | assumption | omega)), rfl, trivial⟩ ?_
  rintro ⟨x26, z30, A27, k28⟩ w33 ⟨hv, hS⟩
  have hv := hk67 x26 z30 hv
  refine W.seq ?_
  refine W.seq ?_
  refine W.region ?_
  refine WL.move rfl rfl ?_
  refine WL.move rfl rfl ?_
  refine WL.len Try.underlying22 rfl rfl ?_
  refine WL.lssD rfl rfl rfl ?_
  refine WL.done ?_
  refine W.cond2 rfl (fun c34 => ?_) (fun c34 => ?_)
  · have hv := hv.1 (of_decide_eq_true c34)
    refine W.skip ?_
    refine W.seq ?_
    refine W.block ?_
    obtain ⟨o41, hv⟩ := hv
    obtain ⟨r44, o46, hv⟩ := hv
    obtain ⟨x55, o62, hv⟩ := hv
    have hS0 := hS
    refine W.drawX 11 (fun iA => [false, false, false, false, false, false, false, false, true, true, false].getD iA false) (fun iC => match iC with | 10 => some 9 | _ => none) [⟨[], [2], false⟩, ⟨[], [5], true⟩, ⟨[], [2], false⟩, ⟨[], [1], true⟩, ⟨[], [6], true⟩, ⟨[3, 4], [], true⟩, ⟨[5], [], false⟩, ⟨[2, 6], [], false⟩, ⟨[7], [], false⟩, ⟨[0, 1, 8], [], false⟩, ⟨[9], [], true⟩] [[(2, .pointer (some ⟨g11, 0, none⟩))], [(5, .slice A27 x26.length k28)], [(2, .pointer (some ⟨g11, 0, none⟩))], [(1, .slice Ars rs.length krs)], [(6, .int .i64 z30)], [], [], [], [], [], []] (fun iQ => [fun v _ => v = .agg #[.int .i64 Pf, .int .i64 Mf, .slice Af mf.length kf], fun v _ => v = .slice A27 x26.length k28, fun v _ => v = .agg #[.int .i64 Pf, .int .i64 Mf, .slice Af mf.length kf], fun v _ => v = .slice Ars rs.length krs, fun v _ => v = .int .i64 z30, fun v _ => v = .pointer (some ((adOf Ars).add z30.toNat)), fun v _ => v = .int .i64 (gi rs z30), fun v _ => v = .int .i64 r44, fun v wQ => ∃ A48_8 k51_8, v = .slice A48_8 2 k51_8 ∧ Own 0 wQ 3 1 A48_8 2 k51_8 (is ([r44, (1 : Int)] : List Int)) ∧ (∀ g, bl A48_8 = some g → w33.heap.size ≤ g), fun v wQ => ∃ A56_9 k57_9, v = .slice A56_9 x55.length k57_9 ∧ Own 0 wQ 3 1 A56_9 x55.length k57_9 (is x55) ∧ (∀ g, bl A56_9 = some g → w33.heap.size ≤ g), fun v wQ => ∃ A56_9_10 k57_9_10, v = .slice A56_9_10 x55.length k57_9_10 ∧ Own 0 wQ 3 1 A56_9_10 x55.length k57_9_10 (is x55) ∧ (∀ g, bl A56_9_10 = some g → w33.heap.size ≤ g)].getD iQ (fun _ _ => True)) Try.mixed (by kernel_rfl) ?_ (by kernel_rfl) ?_ ?_
    · refine Vs_monoT _ ?_
      intro VQ hVQ vQ wQ1 wQ2 hQ1 hQ2
      simp only [List.mem_cons, List.not_mem_nil, or_false] at hVQ
      rcases hVQ with rfl | rfl | rfl | rfl | rfl | rfl | rfl | rfl | rfl | rfl | rfl
      · exact hQ1
      · exact hQ1
      · exact hQ1
      · exact hQ1
      · exact hQ1
      · exact hQ1
      · exact hQ1
      · exact hQ1
      · obtain ⟨A48_8, k51_8, hQe, hO52_8, hN53_8⟩ := hQ1
        exact ⟨A48_8, k51_8, hQe, hO52_8.ext hQ2, hN53_8⟩
      · obtain ⟨A56_9, k57_9, hQe, hO60_9, hN61_9⟩ := hQ1
        exact ⟨A56_9, k57_9, hQe, hO60_9.ext hQ2, hN61_9⟩
      · obtain ⟨A56_9_10, k57_9_10, hQe, hO60_9_10, hN61_9_10⟩ := hQ1
        exact ⟨A56_9_10, k57_9_10, hQe, hO60_9_10.ext hQ2, hN61_9_10⟩
    · refine ⟨⟨rfl, ⟨rfl, trivial⟩, ?_⟩, ⟨rfl, ⟨rfl, trivial⟩, ?_⟩, ⟨rfl, ⟨rfl, trivial⟩, ?_⟩, ⟨rfl, ⟨rfl, trivial⟩, ?_⟩, ⟨rfl, ⟨rfl, trivial⟩, ?_⟩, ⟨rfl, trivial, ?_⟩, ⟨rfl, trivial, ?_⟩, ⟨rfl, trivial, ?_⟩, ⟨rfl, trivial, ?_⟩, ⟨rfl, trivial, ?_⟩, ⟨rfl, trivial, ?_⟩, trivial⟩
      · intro w35 hE
        have hE := hE rfl
        have hS := hS.grow hE
        intro RR
        refine WL.loadV (cs := [.int .i64 Pf, .int .i64 Mf, .slice Af mf.length kf]) Try.el24 Try.agg24 rfl rfl (Own.vcells (hS.own (i := 1) rfl)) rfl ?_
        exact WL.done ⟨_, rfl, ext_refl _, rfl, (fun h => absurd h (by decide)), (fun j h => by cases h)⟩
      · intro w36 hE
        intro RR
        refine WL.move rfl rfl ?_
        exact WL.done ⟨_, rfl, rfl, rfl, (fun h => absurd h (by decide)), (fun j h => by cases h)⟩
      · intro w37 hE
        have hE := hE rfl
        have hS := hS.grow hE
        intro RR
        refine WL.loadV (cs := [.int .i64 Pf, .int .i64 Mf, .slice Af mf.length kf]) Try.el24 Try.agg24 rfl rfl (Own.vcells (hS.own (i := 1) rfl)) rfl ?_
        exact WL.done ⟨_, rfl, ext_refl _, rfl, (fun h => absurd h (by decide)), (fun j h => by cases h)⟩
      · intro w38 hE
        intro RR
        refine WL.move rfl rfl ?_
        exact WL.done ⟨_, rfl, rfl, rfl, (fun h => absurd h (by decide)), (fun j h => by cases h)⟩
      · intro w39 hE
        intro RR
        refine WL.move rfl rfl ?_
        exact WL.done ⟨_, rfl, rfl, rfl, (fun h => absurd h (by decide)), (fun j h => by cases h)⟩
      · intro w40 hE
        rintro _ rfl
        rintro _ rfl
        intro RR
        refine SL.index Try.underlying22 Try.el3 (hS.ro hrs) rfl rfl o41 rfl ?_
        exact WL.done ⟨_, rfl, rfl, rfl, (fun h => absurd h (by decide)), (fun j h => by cases h)⟩
      · intro w42 hE
        have hE := hE rfl
        have hS := hS.grow hE
        rintro _ rfl
        intro RR
        refine WL.load Try.underlying3 rfl rfl (Rd.gi (hS.ro hrs) o41) rfl ?_
        exact WL.done ⟨_, rfl, ext_refl _, rfl, (fun h => absurd h (by decide)), (fun j h => by cases h)⟩
      · intro w43 hE
        have hE := hE rfl
        have hS := hS.grow hE
        rintro _ rfl
        rintro _ rfl
        intro RR
        refine WL.call Try.func69 rfl Try.nm69 rfl rfl (calls_un (ok_rNeg (hS.ro hf) o46)) ?_
        rintro _ w45 ⟨_, hGw45, hRww45, hNww45, r44q, rfl, rfl, he⟩
        subst he
        exact WL.done ⟨_, rfl, hGw45, rfl, (fun h => absurd h (by decide)), (fun j h => by cases h)⟩
      · intro w47 hE
        have hE := hE rfl
        have hS := hS.grow hE
        rintro _ rfl
        intro RR
        refine SL.litL (vs := is ([r44, (1 : Int)] : List Int)) Try.underlying22 Try.el3 rfl rfl rfl rfl (is_one _) rfl ?_
        intro A48 k51 w49 hO52 hN53g hGw49
        have hN53 : ∀ g, bl A48 = some g → _ ≤ g := fun g hg => Nat.le_trans hE.size (hN53g g hg)
        exact WL.done ⟨_, rfl, hGw49, ⟨A48, k51, rfl, hO52, hN53⟩, (fun _ => fun g hg => ⟨hN53g g hg, (hO52.bl_ge g hg).2⟩), (fun j h => by cases h)⟩
      · intro w54 hE
        have hE := hE rfl
        have hS := hS.grow hE
        rintro _ rfl
        rintro _ rfl
        rintro _ ⟨A48_8, k51_8, rfl, hO52_8, hN53_8⟩
        intro RR
        refine WL.call Try.func31 rfl Try.nm31 rfl rfl (calls_un (ok_rpmul (hS.ro hf) (hS.rd (i := 0) rfl) hO52_8.rd o62)) ?_
        rintro _ w59 ⟨_, hGw59, hRww59, hNww59, x55q, A56, k57, rfl, rfl, he⟩
        subst he
        have hO60 := (hRww59.get (i := 0) rfl).1
        have hN61 : ∀ g, bl A56 = some g → _ ≤ g := fun g hg => Nat.le_trans hE.size (hNww59.1 g hg)
        exact WL.done ⟨_, rfl, hGw59, ⟨A56, k57, rfl, hO60, hN61⟩, (fun _ => fun g hg => ⟨hNww59.1 g hg, (hO60.bl_ge g hg).2⟩), (fun j h => by cases h)⟩
      · intro w63 hE
        rintro _ ⟨A56_9, k57_9, rfl, hO60_9, hN61_9⟩
        intro RR
        refine WL.assign rfl rfl ?_
        exact WL.done ⟨_, rfl, rfl, ⟨A56_9, k57_9, rfl, hO60_9, hN61_9⟩, (fun h => absurd h (by decide)), (fun j h => by cases h; rfl)⟩
    · intro vals w64 hT hVs hAp hCp
      have hS := hS.grow hT
      have hv0 : vals 0 = _ := hVs 0 (by decide)
      have hv1 : vals 1 = _ := hVs 1 (by decide)
      have hv2 : vals 2 = _ := hVs 2 (by decide)
      have hv3 : vals 3 = _ := hVs 3 (by decide)
      have hv4 : vals 4 = _ := hVs 4 (by decide)
      have hv5 : vals 5 = _ := hVs 5 (by decide)
      have hv6 : vals 6 = _ := hVs 6 (by decide)
      have hv7 : vals 7 = _ := hVs 7 (by decide)
      obtain ⟨A48_8, k51_8, hv8, hO52_8, hN53_8⟩ := hVs 8 (by decide)
      obtain ⟨A56_9, k57_9, hv9, hO60_9, hN61_9⟩ := hVs 9 (by decide)
      have hv10 : vals 10 = .slice A56_9 x55.length k57_9 := (hCp 10 9 (by decide) rfl).trans hv9
      have hS := St.addOwn [] hS0 hS hO60_9 hN61_9 (fun s hs => by cases hs)
      change St _ _ _ _ [.row 3 1 A56_9 x55.length k57_9 (is x55), .row 3 1 A27 x26.length k28 (is x26), .row 24 3 (some ⟨g11, 0, none⟩) 1 1 [.int .i64 Pf, .int .i64 Mf, .slice Af mf.length kf]] at hS
      rw [show (List.filterMap (fun i => Option.map (fun t => (t, vals i)) (dstAt _ i)) (List.range _)) = [(14, .agg #[.int .i64 Pf, .int .i64 Mf, .slice Af mf.length kf]), (15, .slice A27 x26.length k28), (16, .agg #[.int .i64 Pf, .int .i64 Mf, .slice Af mf.length kf]), (17, .slice Ars rs.length krs), (18, .int .i64 z30), (19, .pointer (some ((adOf Ars).add z30.toNat))), (20, .int .i64 (gi rs z30)), (21, .int .i64 r44), (22, .slice A48_8 2 k51_8), (23, .slice A56_9 x55.length k57_9), (5, .slice A56_9 x55.length k57_9)] from by
        show [(14, vals 0), (15, vals 1), (16, vals 2), (17, vals 3), (18, vals 4), (19, vals 5), (20, vals 6), (21, vals 7), (22, vals 8), (23, vals 9), (5, vals 10)] = _
        rw [hv0, hv1, hv2, hv3, hv4, hv5, hv6, hv7, hv8, hv9, hv10]]
      refine WA.done (by decide +kernel) ?_
      refine W.region ?_
      refine WL.move rfl rfl ?_
      obtain ⟨o66, hv⟩ := hv
      refine WL.add (r := (z30 + (1 : Int))) rfl rfl (wr o66) rfl ?_
      refine WL.assign rfl rfl ?_
      refine WL.done ?_
      have hS := hS.pick [0, 2] rfl
      change St _ _ _ _ [.row 3 1 A56_9 x55.length k57_9 (is x55), .row 24 3 (some ⟨g11, 0, none⟩) 1 1 [.int .i64 Pf, .int .i64 Mf, .slice Af mf.length kf]] at hS
      exact ⟨(x55, (z30 + (1 : Int)), A56_9, k57_9), ⟨rfl, rfl, rfl, rfl, rfl, trivial⟩, hv.2, rfl, hv.1, hS⟩
  · have hv := hv.2 (of_decide_eq_false c34)
    refine W.exit ?_
    refine W.seq ?_
    refine W.region ?_
    refine WL.move rfl rfl ?_
    refine WL.assign rfl rfl ?_
    refine WL.done ?_
    refine W.ret ?_
    refine ⟨_, rfl, Fin.nil ?_⟩
    exact ⟨_, hS.ext, (hS.pick [0] rfl).rows, News.of (hS.pick [0] rfl).rows rfl, ⟨x26, A27, k28, rfl, rfl, hv⟩⟩

end Go.Proofs.Ytmdigamgojfjdaa
set_option linter.unusedSimpArgs false
set_option linter.unusedVariables false
namespace Go.Proofs.Ytmdigamgojfjdaa
open Go.RowKit
def V_PolyFactors (Pf : Int) (Mf : Int) (mf : List Int) (rs : List Int) (x : Int) (Q : Bool → Prop) : Prop :=
  V_alive  (fun r14 => (((!r14) = true) → Q false) ∧ ((!r14) = false → (V_made Pf Mf mf (fun q => match q with | none => Q true | some F19 => V_short ([rs] : List (List Int)) (fun r29 => (((!r29) = true) → Q true) ∧ ((!r29) = false → (V_fromRoots F19 rs (fun x32 => V_rfromRoots Pf Mf mf rs (fun x37 => V_lsame x32 x37 (fun r42 => (((!r42) = true) → Q false) ∧ ((!r42) = false → (∃ (I50 : Bool → Int → Prop) (μ51 : Bool → Int → Nat), I50 false (0 : Int) ∧ ∀ (b48 : Bool) (z49 : Int), (I50 b48 z49 → (((z49 < ((rs.length : Nat) : Int)) → (∃ J55 : Bool → Prop, ((0 ≤ z49 ∧ z49 < (rs.length : Nat)) ∧ (((b48 = true) → J55 true) ∧ (b48 = false → (∃ (r76 : Int), V_rIn Pf Mf mf (gi rs z49) (fun q => q = r76) ∧ (∃ (r82 : Int), V_rIn Pf Mf mf x (fun q => q = r82) ∧ (J55 (decide (r76 = r82)))))))) ∧ ∀ (b54 : Bool), (J55 b54 → ((I64 (z49 + (1 : Int))) ∧ (I50 b54 (z49 + (1 : Int)) ∧ μ51 b54 (z49 + (1 : Int)) < μ51 b48 z49))))) ∧ (¬ (z49 < ((rs.length : Nat) : Int)) → (V_eval F19 x32 x (fun r93 => Q ((decide (r93 = (0 : Int))) == b48))))))))))))))))))
theorem ok_PolyFactors {w : World} {Q : Bool → Prop} {Pf : Int} {Mf : Int} {mf : List Int} {rs : List Int} {x : Int} {Bf : Nat} {Af : Option Addr} {nf kf : Nat} (hf : Rd Bf w 1 Af nf kf (is mf)) {Brs : Nat} {Ars : Option Addr} {nrs krs : Nat} (hrs : Rd Brs w 1 Ars nrs krs (is rs)) (hv : V_PolyFactors Pf Mf mf rs x Q) :
    Calls Try.prog 19 #[.agg #[.int .i64 Pf, .int .i64 Mf, .slice Af nf kf], .slice Ars nrs krs, .int .i64 x] w fun e w' => ∃ v Qr, e = .returned v ∧ w.grownBy w' none ∧ Rows w.heap.size none w' Qr ∧ News w.heap.size Qr ∧ ∃ (r0 : Bool), v = .bool r0 ∧ Qr = [] ∧ Q r0 := by
  have hnf := hf.ilen
  subst hnf
  have hnrs := hrs.ilen
  subst hnrs
  refine calls_swap ?_
  refine calls_of_W (vs := [.agg #[.int .i64 Pf, .int .i64 Mf, .slice Af mf.length kf], .slice Ars rs.length krs, .int .i64 x]) [6] Try.func19 rfl rfl rfl rfl ?_
  have hS := St.start w
  unfold V_PolyFactors at hv
  refine W.seq ?_
  refine W.region ?_
  refine SL.box (z := 3) (cs := [.int .i64 Pf, .int .i64 Mf, .slice Af mf.length kf]) hS rfl rfl rfl rfl ?_
  intro g11 w12 hS
  refine WL.assign rfl rfl ?_
  refine WL.done ?_
  refine W.seq ?_
  refine W.seq ?_
  refine W.region ?_
  refine SL.call hS (ok_alive  hv) Try.func20 rfl Try.nm20 rfl rfl ?_
  rintro _ _ w13 ⟨r14, rfl, rfl, hv⟩ hGw13 hS
  change St _ _ _ _ [.row 24 3 (some ⟨g11, 0, none⟩) 1 1 [.int .i64 Pf, .int .i64 Mf, .slice Af mf.length kf]] at hS
  refine WL.not rfl rfl ?_
  refine WL.done ?_
  refine W.cond2 rfl (fun c15 => ?_) (fun c15 => ?_)
  · have hv := hv.1 (c15)
    refine W.seq ?_
    refine W.region ?_
    refine WL.assign rfl rfl ?_
    refine WL.done ?_
    refine W.ret ?_
    refine ⟨_, rfl, Fin.nil ?_⟩
    exact ⟨_, hS.ext, (hS.pick [] rfl).rows, News.of (hS.pick [] rfl).rows rfl, ⟨false, rfl, rfl, hv⟩⟩
  · have hv := hv.2 (c15)
    refine W.skip ?_
    refine W.seq ?_
    refine W.region ?_
    refine WL.loadV (cs := [.int .i64 Pf, .int .i64 Mf, .slice Af mf.length kf]) Try.el24 Try.agg24 rfl rfl (Own.vcells (hS.own (i := 0) rfl)) rfl ?_
    refine SL.call hS (ok_made (hS.ro hf) hv) Try.func21 rfl Try.nm21 rfl rfl ?_
    rintro _ _ w17 ⟨o, hv, hK⟩ hGw17 hS
    cases o with
    | none =>
      obtain ⟨rfl, rfl⟩ := hK
      change St _ _ _ _ [.row 24 3 (some ⟨g11, 0, none⟩) 1 1 [.int .i64 Pf, .int .i64 Mf, .slice Af mf.length kf]] at hS
      refine WL.assign rfl rfl ?_
      refine WL.done ?_
      refine W.seq ?_
      refine W.seq ?_
      refine W.region ?_
      refine WL.move rfl rfl ?_
      refine WL.eqlPn Try.underlying26 rfl rfl rfl rfl ?_
      refine WL.move rfl rfl ?_
      refine WL.pass rfl rfl rfl ?_
      refine WL.pass rfl rfl rfl ?_
      refine WL.pass rfl rfl rfl ?_
      refine WL.pass rfl rfl rfl ?_
      refine WL.pick rfl rfl rfl ?_
      refine WL.done ?_
      refine W.condT rfl ?_
      refine W.seq ?_
      refine W.region ?_
      refine WL.assign rfl rfl ?_
      refine WL.done ?_
      refine W.ret ?_
      refine ⟨_, rfl, Fin.nil ?_⟩
      exact ⟨_, hS.ext, (hS.pick [] rfl).rows, News.of (hS.pick [] rfl).rows rfl, ⟨true, rfl, rfl, hv⟩⟩
    | some F19 =>
      obtain ⟨ad20, lo21, hi22, rfl, rfl⟩ := hK
      change St _ _ _ _ [.ch lo21 hi22 (fun wz => GFX lo21 hi22 wz ad20 F19), .row 24 3 (some ⟨g11, 0, none⟩) 1 1 [.int .i64 Pf, .int .i64 Mf, .slice Af mf.length kf]] at hS
      refine WL.assign rfl rfl ?_
      refine WL.done ?_
      refine W.seq ?_
      refine W.seq ?_
      refine W.region ?_
      refine WL.move rfl rfl ?_
      refine WL.eqlPn Try.underlying26 rfl rfl rfl rfl ?_
      refine WL.move rfl rfl ?_
      refine WL.take rfl ?_
      refine WL.move rfl rfl ?_
      refine WL.take rfl ?_
      refine SL.lit1 (vs := [.slice Ars rs.length krs]) hS Try.underlying37 Try.el22 rfl rfl rfl rfl (by simp [Value.oneCell']) rfl ?_
      intro A25 w26 hS
      refine WL.take rfl ?_
      refine SL.call hS (ok_short (ls := ([rs] : List (List Int))) ⟨_, _, (hS.rd (i := 0) rfl), ⟨⟨_, _, _, rfl, (Rd.is_m (hS.ro hrs))⟩, trivial⟩⟩ hv) Try.func26 rfl Try.nm26 rfl rfl ?_
      rintro _ _ w28 ⟨r29, rfl, rfl, hv⟩ hGw28 hS
      change St _ _ _ _ [.row 22 1 A25 1 1 [.slice Ars rs.length krs], .ch lo21 hi22 (fun wz => GFX lo21 hi22 wz ad20 F19), .row 24 3 (some ⟨g11, 0, none⟩) 1 1 [.int .i64 Pf, .int .i64 Mf, .slice Af mf.length kf]] at hS
      refine WL.take rfl ?_
      refine WL.not rfl rfl ?_
      refine WL.pick rfl rfl rfl ?_
      refine WL.done ?_
      refine W.cond2 rfl (fun c30 => ?_) (fun c30 => ?_)
      · have hv := hv.1 (c30)
        refine W.seq ?_
        refine W.region ?_
        refine WL.assign rfl rfl ?_
        refine WL.done ?_
        refine W.ret ?_
        refine ⟨_, rfl, Fin.nil ?_⟩
        exact ⟨_, hS.ext, (hS.pick [] rfl).rows, News.of (hS.pick [] rfl).rows rfl, ⟨true, rfl, rfl, hv⟩⟩
      · have hv := hv.2 (c30)
        refine W.skip ?_
        refine W.seq ?_
        refine W.region ?_
        refine WL.move rfl rfl ?_
        refine WL.move rfl rfl ?_
        refine SL.call hS (ok_fromRoots (GFX.gfr (hS.chunk (i := 1) rfl)) (hS.ro hrs) hv) Try.func48 rfl Try.nm48 rfl rfl ?_
        rintro _ _ w31 ⟨x32, A33, k34, rfl, rfl, hv⟩ hGw31 hS
        change St _ _ _ _ [.row 3 1 A33 x32.length k34 (is x32), .row 22 1 A25 1 1 [.slice Ars rs.length krs], .ch lo21 hi22 (fun wz => GFX lo21 hi22 wz ad20 F19), .row 24 3 (some ⟨g11, 0, none⟩) 1 1 [.int .i64 Pf, .int .i64 Mf, .slice Af mf.length kf]] at hS
        refine WL.assign rfl rfl ?_
        refine WL.done ?_
        refine W.seq ?_
        refine W.seq ?_
        refine W.region ?_
        refine WL.move rfl rfl ?_
        refine WL.loadV (cs := [.int .i64 Pf, .int .i64 Mf, .slice Af mf.length kf]) Try.el24 Try.agg24 rfl rfl (Own.vcells (hS.own (i := 3) rfl)) rfl ?_
        refine WL.move rfl rfl ?_
        refine SL.call hS (ok_rfromRoots (hS.ro hf) (hS.ro hrs) hv) Try.func61 rfl Try.nm61 rfl rfl ?_
        rintro _ _ w36 ⟨x37, A38, k39, rfl, rfl, hv⟩ hGw36 hS
        change St _ _ _ _ [.row 3 1 A38 x37.length k39 (is x37), .row 3 1 A33 x32.length k34 (is x32), .row 22 1 A25 1 1 [.slice Ars rs.length krs], .ch lo21 hi22 (fun wz => GFX lo21 hi22 wz ad20 F19), .row 24 3 (some ⟨g11, 0, none⟩) 1 1 [.int .i64 Pf, .int .i64 Mf, .slice Af mf.length kf]] at hS
        refine SL.call hS (ok_lsame (hS.rd (i := 1) rfl) (hS.rd (i := 0) rfl) hv) Try.func23 rfl Try.nm23 rfl rfl ?_
        rintro _ _ w41 ⟨r42, rfl, rfl, hv⟩ hGw41 hS
        change St _ _ _ _ [.row 3 1 A38 x37.length k39 (is x37), .row 3 1 A33 x32.length k34 (is x32), .row 22 1 A25 1 1 [.slice Ars rs.length krs], .ch lo21 hi22 (fun wz => GFX lo21 hi22 wz ad20 F19), .row 24 3 (some ⟨g11, 0, none⟩) 1 1 [.int .i64 Pf, .int .i64 Mf, .slice Af mf.length kf]] at hS
        refine WL.not rfl rfl ?_
        refine WL.done ?_
        refine W.cond2 rfl (fun c43 => ?_) (fun c43 => ?_)
        · have hv := hv.1 (c43)
          refine W.seq ?_
          refine W.region ?_
          refine WL.assign rfl rfl ?_
          refine WL.done ?_
          refine W.ret ?_
          refine ⟨_, rfl, Fin.nil ?_⟩
          exact ⟨_, hS.ext, (hS.pick [] rfl).rows, News.of (hS.pick [] rfl).rows rfl, ⟨false, rfl, rfl, hv⟩⟩
        · have hv := hv.2 (c43)
          refine W.skip ?_
          refine W.seq ?_
          refine W.region ?_
          refine WL.assign rfl rfl ?_
          refine WL.done ?_
          refine W.seq ?_
          refine W.seq ?_
          refine W.region ?_
          refine WL.move rfl rfl ?_
          refine WL.len Try.underlying22 rfl rfl ?_
          refine WL.move rfl rfl ?_
          refine WL.done ?_
          refine W.block ?_
          obtain ⟨I50, μ51, hv, hk94⟩ := hv
          change St _ _ _ _ [.row 3 1 A38 x37.length k39 (is x37), .row 3 1 A33 x32.length k34 (is x32), .row 22 1 A25 1 1 [.slice Ars rs.length krs], .ch lo21 hi22 (fun wz => GFX lo21 hi22 wz ad20 F19), .row 24 3 (some ⟨g11, 0, none⟩) 1 1 [.int .i64 Pf, .int .i64 Mf, .slice Af mf.length kf]] at hS
          refine W.loop (σ := Bool × Int) (fun q w1 => match q with | (b48, z49) => I50 b48 z49 ∧ St TT w none w1 [.row 3 1 A38 x37.length k39 (is x37), .row 3 1 A33 x32.length k34 (is x32), .row 22 1 A25 1 1 [.slice Ars rs.length krs], .ch lo21 hi22 (fun wz => GFX lo21 hi22 wz ad20 F19), .row 24 3 (some ⟨g11, 0, none⟩) 1 1 [.int .i64 Pf, .int .i64 Mf, .slice Af mf.length kf]]) (fun q => match q with | (b48, z49) => [(2, .int .i64 x), (3, .pointer (some ⟨g11, 0, none⟩)), (6, .bool false), (7, .pointer (some ad20)), (8, .slice A33 x32.length k34), (9, .bool b48), (33, .slice Ars rs.length krs), (34, .int .i64 ((rs.length : Nat) : Int)), (35, .int .i64 z49)]) (fun q => match q with | (b48, z49) => μ51 b48 z49) (false, (0 : Int)) ⟨hv, hS⟩ ⟨rfl, rfl, rfl, rfl, rfl, rfl, rfl, rfl, rfl, trivial⟩ ?_
          rintro ⟨b48, z49⟩ w52 ⟨hv, hS⟩
          have hv := hk94 b48 z49 hv
          refine W.seq ?_
          refine W.region ?_
          refine WL.lssD rfl rfl rfl ?_
          refine WL.done ?_
          refine W.seq ?_
          refine W.cond2 rfl (fun c53 => ?_) (fun c53 => ?_)
          · have hv := hv.1 (of_decide_eq_true c53)
            refine W.skip ?_
            refine W.seq ?_
            obtain ⟨J55, hv, hk91⟩ := hv
            refine W.cutN (σ := Bool) (fun b54 w1 => J55 b54 ∧ St TT w none w1 [.row 3 1 A38 x37.length k39 (is x37), .row 3 1 A33 x32.length k34 (is x32), .row 22 1 A25 1 1 [.slice Ars rs.length krs], .ch lo21 hi22 (fun wz => GFX lo21 hi22 wz ad20 F19), .row 24 3 (some ⟨g11, 0, none⟩) 1 1 [.int .i64 Pf, .int .i64 Mf, .slice Af mf.length kf]]) (fun b54 => [(2, .int .i64 x), (3, .pointer (some ⟨g11, 0, none⟩)), (6, .bool false), (7, .pointer (some ad20)), (8, .slice A33 x32.length k34), (9, .bool b54), (11, .int .i64 (gi rs z49)), (33, .slice Ars rs.length krs), (34, .int .i64 ((rs.length : Nat) : Int)), (35, .int .i64 z49), (36, .bool (decide (z49 < ((rs.length : Nat) : Int))))]) ?_ ?_
            · refine W.block ?_
              refine W.seq ?_
              refine W.region ?_
              obtain ⟨o56, hv⟩ := hv
              refine SL.index Try.underlying22 Try.el3 (hS.ro hrs) rfl rfl o56 rfl ?_
              refine WL.load Try.underlying3 rfl rfl (Rd.gi (hS.ro hrs) o56) rfl ?_
              refine WL.assign rfl rfl ?_
              refine WL.done ?_
              cases g58 : b48
              · have hv := hv.2 g58
                obtain ⟨r76, o78, hv⟩ := hv
                obtain ⟨r82, o84, hv⟩ := hv
                have hS0 := hS
                refine W.drawX 11 (fun _ => false) (fun _ => none) [⟨[], [9], true⟩, ⟨[0], [], true⟩, ⟨[1], [3], false⟩, ⟨[1], [11], true⟩, ⟨[1, 2, 3], [], false⟩, ⟨[1], [3], false⟩, ⟨[1], [2], true⟩, ⟨[1, 5, 6], [], false⟩, ⟨[1, 4, 7], [], true⟩, ⟨[1, 8], [], true⟩, ⟨[9], [], true⟩] [[(9, .bool false)], [], [(3, .pointer (some ⟨g11, 0, none⟩))], [(11, .int .i64 (gi rs z49))], [], [(3, .pointer (some ⟨g11, 0, none⟩))], [(2, .int .i64 x)], [], [], [], []] (fun iQ => [fun v _ => v = .bool false, fun v _ => v = .bool false, fun v _ => v = .agg #[.int .i64 Pf, .int .i64 Mf, .slice Af mf.length kf], fun v _ => v = .int .i64 (gi rs z49), fun v _ => v = .int .i64 r76, fun v _ => v = .agg #[.int .i64 Pf, .int .i64 Mf, .slice Af mf.length kf], fun v _ => v = .int .i64 x, fun v _ => v = .int .i64 r82, fun v _ => v = .bool (decide (r76 = r82)), fun v _ => v = .bool (decide (r76 = r82)), fun v _ => v = .bool (decide (r76 = r82))].getD iQ (fun _ _ => True)) Try.mixed (by kernel_rfl) ?_ (by kernel_rfl) ?_ ?_
                · refine Vs_monoT _ ?_
                  intro VQ hVQ vQ wQ1 wQ2 hQ1 hQ2
                  simp only [List.mem_cons, List.not_mem_nil, or_false] at hVQ
                  rcases hVQ with rfl | rfl | rfl | rfl | rfl | rfl | rfl | rfl | rfl | rfl | rfl
                  · exact hQ1
                  · exact hQ1
                  · exact hQ1
                  · exact hQ1
                  · exact hQ1
                  · exact hQ1
                  · exact hQ1
                  · exact hQ1
                  · exact hQ1
                  · exact hQ1
                  · exact hQ1
                · refine ⟨⟨rfl, ⟨rfl, trivial⟩, ?_⟩, ⟨rfl, trivial, ?_⟩, ⟨rfl, ⟨rfl, trivial⟩, ?_⟩, ⟨rfl, ⟨rfl, trivial⟩, ?_⟩, ⟨rfl, trivial, ?_⟩, ⟨rfl, ⟨rfl, trivial⟩, ?_⟩, ⟨rfl, ⟨rfl, trivial⟩, ?_⟩, ⟨rfl, trivial, ?_⟩, ⟨rfl, trivial, ?_⟩, ⟨rfl, trivial, ?_⟩, ⟨rfl, trivial, ?_⟩, trivial⟩
                  · intro w71 hE
                    intro RR
                    refine WL.move rfl rfl ?_
                    exact WL.done ⟨_, rfl, rfl, rfl, (fun h => absurd h (by decide)), (fun j h => by cases h)⟩
                  · intro w72 hE
                    rintro _ rfl
                    intro RR
                    refine WL.move rfl rfl ?_
                    exact WL.done ⟨_, rfl, rfl, rfl, (fun h => absurd h (by decide)), (fun j h => by cases h)⟩
                  · intro w73 hE
                    have hE := hE rfl
                    have hS := hS.grow hE
                    rintro _ rfl
                    intro RR
                    refine WL.take rfl ?_
                    refine WL.loadV (cs := [.int .i64 Pf, .int .i64 Mf, .slice Af mf.length kf]) Try.el24 Try.agg24 rfl rfl (Own.vcells (hS.own (i := 4) rfl)) rfl ?_
                    exact WL.done ⟨_, rfl, ext_refl _, rfl, (fun h => absurd h (by decide)), (fun j h => by cases h)⟩
                  · intro w74 hE
                    rintro _ rfl
                    intro RR
                    refine WL.take rfl ?_
                    refine WL.move rfl rfl ?_
                    exact WL.done ⟨_, rfl, rfl, rfl, (fun h => absurd h (by decide)), (fun j h => by cases h)⟩
                  · intro w75 hE
                    have hE := hE rfl
                    have hS := hS.grow hE
                    rintro _ rfl
                    rintro _ rfl
                    rintro _ rfl
                    intro RR
                    refine WL.take rfl ?_
                    refine WL.call Try.func56 rfl Try.nm56 rfl rfl (calls_un (ok_rIn (hS.ro hf) o78)) ?_
                    rintro _ w77 ⟨_, hGw77, hRww77, hNww77, r76q, rfl, rfl, he⟩
                    subst he
                    exact WL.done ⟨_, rfl, hGw77, rfl, (fun h => absurd h (by decide)), (fun j h => by cases h)⟩
                  · intro w79 hE
                    have hE := hE rfl
                    have hS := hS.grow hE
                    rintro _ rfl
                    intro RR
                    refine WL.take rfl ?_
                    refine WL.loadV (cs := [.int .i64 Pf, .int .i64 Mf, .slice Af mf.length kf]) Try.el24 Try.agg24 rfl rfl (Own.vcells (hS.own (i := 4) rfl)) rfl ?_
                    exact WL.done ⟨_, rfl, ext_refl _, rfl, (fun h => absurd h (by decide)), (fun j h => by cases h)⟩
                  · intro w80 hE
                    rintro _ rfl
                    intro RR
                    refine WL.take rfl ?_
                    refine WL.move rfl rfl ?_
                    exact WL.done ⟨_, rfl, rfl, rfl, (fun h => absurd h (by decide)), (fun j h => by cases h)⟩
                  · intro w81 hE
                    have hE := hE rfl
                    have hS := hS.grow hE
                    rintro _ rfl
                    rintro _ rfl
                    rintro _ rfl
                    intro RR
                    refine WL.take rfl ?_
                    refine WL.call Try.func56 rfl Try.nm56 rfl rfl (calls_un (ok_rIn (hS.ro hf) o84)) ?_
                    rintro _ w83 ⟨_, hGw83, hRww83, hNww83, r82q, rfl, rfl, he⟩
                    subst he
                    exact WL.done ⟨_, rfl, hGw83, rfl, (fun h => absurd h (by decide)), (fun j h => by cases h)⟩
                  · intro w85 hE
                    rintro _ rfl
                    rintro _ rfl
                    rintro _ rfl
                    intro RR
                    refine WL.take rfl ?_
                    refine WL.eqlD rfl rfl rfl ?_
                    exact WL.done ⟨_, rfl, rfl, rfl, (fun h => absurd h (by decide)), (fun j h => by cases h)⟩
                  · intro w86 hE
                    rintro _ rfl
                    rintro _ rfl
                    intro RR
                    refine WL.pick rfl rfl rfl ?_
                    exact WL.done ⟨_, rfl, rfl, rfl, (fun h => absurd h (by decide)), (fun j h => by cases h)⟩
                  · intro w87 hE
                    rintro _ rfl
                    intro RR
                    refine WL.assign rfl rfl ?_
                    exact WL.done ⟨_, rfl, rfl, rfl, (fun h => absurd h (by decide)), (fun j h => by cases h)⟩
                · intro vals w88 hT hVs hAp hCp
                  have hS := hS.grow hT
                  have hv0 : vals 0 = _ := hVs 0 (by decide)
                  have hv1 : vals 1 = _ := hVs 1 (by decide)
                  have hv2 : vals 2 = _ := hVs 2 (by decide)
                  have hv3 : vals 3 = _ := hVs 3 (by decide)
                  have hv4 : vals 4 = _ := hVs 4 (by decide)
                  have hv5 : vals 5 = _ := hVs 5 (by decide)
                  have hv6 : vals 6 = _ := hVs 6 (by decide)
                  have hv7 : vals 7 = _ := hVs 7 (by decide)
                  have hv8 : vals 8 = _ := hVs 8 (by decide)
                  have hv9 : vals 9 = _ := hVs 9 (by decide)
                  have hv10 : vals 10 = _ := hVs 10 (by decide)
                  rw [show (List.filterMap (fun i => Option.map (fun t => (t, vals i)) (dstAt _ i)) (List.range _)) = [(39, .bool false), (40, .bool false), (41, .agg #[.int .i64 Pf, .int .i64 Mf, .slice Af mf.length kf]), (42, .int .i64 (gi rs z49)), (43, .int .i64 r76), (44, .agg #[.int .i64 Pf, .int .i64 Mf, .slice Af mf.length kf]), (45, .int .i64 x), (46, .int .i64 r82), (47, .bool (decide (r76 = r82))), (48, .bool (decide (r76 = r82))), (9, .bool (decide (r76 = r82)))] from by
                    show [(39, vals 0), (40, vals 1), (41, vals 2), (42, vals 3), (43, vals 4), (44, vals 5), (45, vals 6), (46, vals 7), (47, vals 8), (48, vals 9), (9, vals 10)] = _
                    rw [hv0, hv1, hv2, hv3, hv4, hv5, hv6, hv7, hv8, hv9, hv10]]
                  refine WA.done (by decide +kernel) ?_
                  change St _ _ _ _ [.row 3 1 A38 x37.length k39 (is x37), .row 3 1 A33 x32.length k34 (is x32), .row 22 1 A25 1 1 [.slice Ars rs.length krs], .ch lo21 hi22 (fun wz => GFX lo21 hi22 wz ad20 F19), .row 24 3 (some ⟨g11, 0, none⟩) 1 1 [.int .i64 Pf, .int .i64 Mf, .slice Af mf.length kf]] at hS
                  exact ⟨(decide (r76 = r82)), ⟨rfl, rfl, rfl, rfl, rfl, rfl, rfl, rfl, rfl, rfl, rfl, trivial⟩, rfl, hv, hS⟩
              · have hv := hv.1 g58
                have hS0 := hS
                refine W.drawX 11 (fun _ => false) (fun _ => none) [⟨[], [9], true⟩, ⟨[0], [], true⟩, ⟨[1], [3], false⟩, ⟨[1], [11], true⟩, ⟨[1, 2, 3], [], false⟩, ⟨[1], [3], false⟩, ⟨[1], [2], true⟩, ⟨[1, 5, 6], [], false⟩, ⟨[1, 4, 7], [], true⟩, ⟨[1, 8], [], true⟩, ⟨[9], [], true⟩] [[(9, .bool true)], [], [(3, .pointer (some ⟨g11, 0, none⟩))], [(11, .int .i64 (gi rs z49))], [], [(3, .pointer (some ⟨g11, 0, none⟩))], [(2, .int .i64 x)], [], [], [], []] (fun iQ => [fun v _ => v = .bool true, fun v _ => v = .bool true, fun v _ => v = undef, fun v _ => v = undef, fun v _ => v = undef, fun v _ => v = undef, fun v _ => v = undef, fun v _ => v = undef, fun v _ => v = undef, fun v _ => v = .bool true, fun v _ => v = .bool true].getD iQ (fun _ _ => True)) Try.mixed (by kernel_rfl) ?_ (by kernel_rfl) ?_ ?_
                · refine Vs_monoT _ ?_
                  intro VQ hVQ vQ wQ1 wQ2 hQ1 hQ2
                  simp only [List.mem_cons, List.not_mem_nil, or_false] at hVQ
                  rcases hVQ with rfl | rfl | rfl | rfl | rfl | rfl | rfl | rfl | rfl | rfl | rfl
                  · exact hQ1
                  · exact hQ1
                  · exact hQ1
                  · exact hQ1
                  · exact hQ1
                  · exact hQ1
                  · exact hQ1
                  · exact hQ1
                  · exact hQ1
                  · exact hQ1
                  · exact hQ1
                · refine ⟨⟨rfl, ⟨rfl, trivial⟩, ?_⟩, ⟨rfl, trivial, ?_⟩, ⟨rfl, ⟨rfl, trivial⟩, ?_⟩, ⟨rfl, ⟨rfl, trivial⟩, ?_⟩, ⟨rfl, trivial, ?_⟩, ⟨rfl, ⟨rfl, trivial⟩, ?_⟩, ⟨rfl, ⟨rfl, trivial⟩, ?_⟩, ⟨rfl, trivial, ?_⟩, ⟨rfl, trivial, ?_⟩, ⟨rfl, trivial, ?_⟩, ⟨rfl, trivial, ?_⟩, trivial⟩
                  · intro w59 hE
                    intro RR
                    refine WL.move rfl rfl ?_
                    exact WL.done ⟨_, rfl, rfl, rfl, (fun h => absurd h (by decide)), (fun j h => by cases h)⟩
                  · intro w60 hE
                    rintro _ rfl
                    intro RR
                    refine WL.move rfl rfl ?_
                    exact WL.done ⟨_, rfl, rfl, rfl, (fun h => absurd h (by decide)), (fun j h => by cases h)⟩
                  · intro w61 hE
                    have hE := hE rfl
                    have hS := hS.grow hE
                    rintro _ rfl
                    intro RR
                    refine WL.pass rfl rfl rfl ?_
                    exact WL.done ⟨_, rfl, ext_refl _, rfl, (fun h => absurd h (by decide)), (fun j h => by cases h)⟩
                  · intro w62 hE
                    rintro _ rfl
                    intro RR
                    refine WL.pass rfl rfl rfl ?_
                    exact WL.done ⟨_, rfl, rfl, rfl, (fun h => absurd h (by decide)), (fun j h => by cases h)⟩
                  · intro w63 hE
                    have hE := hE rfl
                    have hS := hS.grow hE
                    rintro _ rfl
                    rintro _ rfl
                    rintro _ rfl
                    intro RR
                    refine WL.pass rfl rfl rfl ?_
                    exact WL.done ⟨_, rfl, ext_refl _, rfl, (fun h => absurd h (by decide)), (fun j h => by cases h)⟩
                  · intro w64 hE
                    have hE := hE rfl
                    have hS := hS.grow hE
                    rintro _ rfl
                    intro RR
                    refine WL.pass rfl rfl rfl ?_
                    exact WL.done ⟨_, rfl, ext_refl _, rfl, (fun h => absurd h (by decide)), (fun j h => by cases h)⟩
                  · intro w65 hE
                    rintro _ rfl
                    intro RR
                    refine WL.pass rfl rfl rfl ?_
                    exact WL.done ⟨_, rfl, rfl, rfl, (fun h => absurd h (by decide)), (fun j h => by cases h)⟩
                  · intro w66 hE
                    have hE := hE rfl
                    have hS := hS.grow hE
                    rintro _ rfl
                    rintro _ rfl
                    rintro _ rfl
                    intro RR
                    refine WL.pass rfl rfl rfl ?_
                    exact WL.done ⟨_, rfl, ext_refl _, rfl, (fun h => absurd h (by decide)), (fun j h => by cases h)⟩
                  · intro w67 hE
                    rintro _ rfl
                    rintro _ rfl
                    rintro _ rfl
                    intro RR
                    refine WL.pass rfl rfl rfl ?_
                    exact WL.done ⟨_, rfl, rfl, rfl, (fun h => absurd h (by decide)), (fun j h => by cases h)⟩
                  · intro w68 hE
                    rintro _ rfl
                    rintro _ rfl
                    intro RR
                    refine WL.pick rfl rfl rfl ?_
                    exact WL.done ⟨_, rfl, rfl, rfl, (fun h => absurd h (by decide)), (fun j h => by cases h)⟩
                  · intro w69 hE
                    rintro _ rfl
                    intro RR
                    refine WL.assign rfl rfl ?_
                    exact WL.done ⟨_, rfl, rfl, rfl, (fun h => absurd h (by decide)), (fun j h => by cases h)⟩
                · intro vals w70 hT hVs hAp hCp
                  have hS := hS.grow hT
                  have hv0 : vals 0 = _ := hVs 0 (by decide)
                  have hv1 : vals 1 = _ := hVs 1 (by decide)
                  have hv2 : vals 2 = _ := hVs 2 (by decide)
                  have hv3 : vals 3 = _ := hVs 3 (by decide)
                  have hv4 : vals 4 = _ := hVs 4 (by decide)
                  have hv5 : vals 5 = _ := hVs 5 (by decide)
                  have hv6 : vals 6 = _ := hVs 6 (by decide)
                  have hv7 : vals 7 = _ := hVs 7 (by decide)
                  have hv8 : vals 8 = _ := hVs 8 (by decide)
                  have hv9 : vals 9 = _ := hVs 9 (by decide)
                  have hv10 : vals 10 = _ := hVs 10 (by decide)
                  rw [show (List.filterMap (fun i => Option.map (fun t => (t, vals i)) (dstAt _ i)) (List.range _)) = [(39, .bool true), (40, .bool true), (41, undef), (42, undef), (43, undef), (44, undef), (45, undef), (46, undef), (47, undef), (48, .bool true), (9, .bool true)] from by
                    show [(39, vals 0), (40, vals 1), (41, vals 2), (42, vals 3), (43, vals 4), (44, vals 5), (45, vals 6), (46, vals 7), (47, vals 8), (48, vals 9), (9, vals 10)] = _
                    rw [hv0, hv1, hv2, hv3, hv4, hv5, hv6, hv7, hv8, hv9, hv10]]
                  refine WA.done (by decide +kernel) ?_
                  change St _ _ _ _ [.row 3 1 A38 x37.length k39 (is x37), .row 3 1 A33 x32.length k34 (is x32), .row 22 1 A25 1 1 [.slice Ars rs.length krs], .ch lo21 hi22 (fun wz => GFX lo21 hi22 wz ad20 F19), .row 24 3 (some ⟨g11, 0, none⟩) 1 1 [.int .i64 Pf, .int .i64 Mf, .slice Af mf.length kf]] at hS
                  exact ⟨true, ⟨rfl, rfl, rfl, rfl, rfl, rfl, rfl, rfl, rfl, rfl, rfl, trivial⟩, rfl, hv, hS⟩
            · rintro b54 w89 ⟨hv, hS⟩
              have hv := hk91 b54 hv
              refine W.region ?_
              obtain ⟨o90, hv⟩ := hv
              refine WL.add (r := (z49 + (1 : Int))) rfl rfl (wr o90) rfl ?_
              refine WL.move rfl rfl ?_
              refine WL.done ?_
              change St _ _ _ _ [.row 3 1 A38 x37.length k39 (is x37), .row 3 1 A33 x32.length k34 (is x32), .row 22 1 A25 1 1 [.slice Ars rs.length krs], .ch lo21 hi22 (fun wz => GFX lo21 hi22 wz ad20 F19), .row 24 3 (some ⟨g11, 0, none⟩) 1 1 [.int .i64 Pf, .int .i64 Mf, .slice Af mf.length kf]] at hS
              exact ⟨(b54, (z49 + (1 : Int))), ⟨rfl, rfl, rfl, rfl, rfl, rfl, rfl, rfl, rfl, trivial⟩, hv.2, rfl, hv.1, hS⟩
          · have hv := hv.2 (of_decide_eq_false c53)
            refine W.exit ?_
            refine W.seq ?_
            refine W.region ?_
            refine WL.move rfl rfl ?_
            refine WL.move rfl rfl ?_
            refine WL.move rfl rfl ?_
            refine SL.call hS (ok_eval (GFX.gfr (hS.chunk (i := 3) rfl)) (hS.rd (i := 1) rfl) hv) Try.func44 rfl Try.nm44 rfl rfl ?_
            rintro _ _ w92 ⟨r93, rfl, rfl, hv⟩ hGw92 hS
            change St _ _ _ _ [.row 3 1 A38 x37.length k39 (is x37), .row 3 1 A33 x32.length k34 (is x32), .row 22 1 A25 1 1 [.slice Ars rs.length krs], .ch lo21 hi22 (fun wz => GFX lo21 hi22 wz ad20 F19), .row 24 3 (some ⟨g11, 0, none⟩) 1 1 [.int .i64 Pf, .int .i64 Mf, .slice Af mf.length kf]] at hS
            refine WL.eqlD rfl rfl rfl ?_
            refine WL.move rfl rfl ?_
            refine WL.eqB (r := ((decide (r93 = (0 : Int))) == b48)) rfl rfl Try.underlying4 rfl rfl ?_
            refine WL.assign rfl rfl ?_
            refine WL.done ?_
            refine W.ret ?_
            refine ⟨_, rfl, Fin.nil ?_⟩
            exact ⟨_, hS.ext, (hS.pick [] rfl).rows, News.of (hS.pick [] rfl).rows rfl, ⟨((decide (r93 = (0 : Int))) == b48), rfl, rfl, hv⟩⟩
end Go.Proofs.Ytmdigamgojfjdaa
set_option linter.unusedVariables false
set_option linter.unusedSimpArgs false
namespace Go.Proofs.Ytmdigamgojfjdaa
open Ks
/-! ### the reference's quotients, values; what the laws ask first -/
section
variable {k : Ks} {F : GFv} {P M : Int} {mf : List Int}
theorem w_rfromRoots {rs : List Int} {Q : List Int → Prop} (hF : FV P M mf k.p k.m k.v) (hn : rs.length ≤ 1000) (h : Q (k.L (lpf (k.pol rs) rs.length))) : V_rfromRoots P M mf rs Q := by
  refine ⟨fun x z => ∃ j : Nat, z = j ∧ j ≤ rs.length ∧ x = k.L (lpf (k.pol rs) j), fun x z => (rs.length - z).toNat, ⟨0, rfl, Nat.zero_le _, L_one.symm⟩, ?_⟩
  rintro _ _ ⟨j, rfl, hj, rfl⟩
  dsimp only
  refine ⟨fun hz => ?_, fun hz => ?_⟩
  · have l1 := L_len (k := k) (lpf_su (k.pol rs) j)
    have e : ([k.co (-(k.el (gi rs (j : Int)))), 1] : List Int) = k.L (lin (k.pol rs j)) := (L_lin _).symm
    refine ⟨⟨by omega, by omega⟩, _, w_rNeg hF rfl, _, w_rpmul (k := k) hF (by omega) (by simp) rfl, small (by omega) (by omega), ⟨j + 1, by push_cast; rfl, by omega, ?_⟩, by omega⟩
    rw [e, pol_L (lpf_fs _ _), pol_L (lin_dg _).fs]; rfl
  · rw [show j = rs.length by omega]; exact h
end
end Go.Proofs.Ytmdigamgojfjdaa
set_option linter.unusedVariables false
set_option linter.unusedSimpArgs false
namespace Go.Proofs.Ytmdigamgojfjdaa
open Ks
section
variable {k : Ks} {F : GFv} {P M : Int} {mf : List Int}
theorem law_PolyFactors (rs : List Int) (x : Int) : V_PolyFactors P M mf rs x (fun b => b = true) := by
  refine w_alive ⟨fun h => absurd h (by decide), fun _ => w_made (fun _ => rfl) fun F k K hF => w_short1 rfl fun hp => ?_⟩
  have hll := L_dg (k := k) (lpf_dg (k.pol rs) rs.length)
  have hlf := lpf_fs (k.pol rs) rs.length
  refine w_fromRoots K (by omega) (w_rfromRoots hF (by omega) (w_same (by omega) rfl (nb ?_)))
  refine ⟨fun b z => ∃ j : Nat, z = j ∧ j ≤ rs.length ∧ (b = true ↔ ∃ i, i < j ∧ k.pol rs i = k.el x), fun b z => (rs.length - z).toNat, ⟨0, rfl, Nat.zero_le _, ⟨fun h => absurd h (by decide), fun ⟨i, hi, _⟩ => by omega⟩⟩, ?_⟩
  rintro b _ ⟨j, rfl, hj, hb⟩
  dsimp only
  refine ⟨fun hz => ⟨fun c => c = true ↔ ∃ i, i < j + 1 ∧ k.pol rs i = k.el x, ⟨⟨by omega, by omega⟩, fun h => ?_, fun h => ⟨_, w_rIn hF rfl, _, w_rIn hF rfl, ?_⟩⟩, ?_⟩, fun hz => ?_⟩
  · obtain ⟨i, hi, e⟩ := hb.1 h
    exact ⟨fun _ => ⟨i, by omega, e⟩, fun _ => rfl⟩
  · show decide _ = true ↔ _
    rw [decide_eq_true_iff]
    constructor
    · intro e; exact ⟨j, by omega, co_inj e⟩
    · rintro ⟨i, hi, e⟩
      by_cases hij : i = j
      · subst hij; exact congrArg k.co e
      · exact absurd (hb.2 ⟨i, by omega, e⟩) (by rw [h]; decide)
  · rintro c hc
    exact ⟨small (by omega) (by omega), ⟨j + 1, by push_cast; rfl, by omega, hc⟩, by omega⟩
  · refine w_eval K ?_
    rw [pol_L hlf]
    rw [show j = rs.length by omega, ← vl_lpf (k.pol rs) (k.el x) rs.length] at hb
    by_cases h0 : vl_ (lpf (k.pol rs) rs.length) (k.el x) = 0
    · rw [hb.2 h0, h0]; rfl
    · have hbf : b = false := by
        cases b
        · rfl
        · exact absurd (hb.1 rfl) h0
      rw [hbf, decide_eq_false (fun e => h0 (co_eq0.1 e))]; rfl
end
end Go.Proofs.Ytmdigamgojfjdaa
