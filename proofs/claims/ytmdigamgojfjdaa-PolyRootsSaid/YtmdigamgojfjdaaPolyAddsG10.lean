/- Contracts of functions of the program, and what they lean on: D8. -/
import Derived.Test.YtmdigamgojfjdaaPolyAddsG9
set_option linter.unusedSimpArgs false
set_option linter.unusedVariables false
namespace Go.Proofs.Ytmdigamgojfjdaa
open Go.RowKit
def V_eval (Fg : GFv) (p : List Int) (x : Int) (Q : Int → Prop) : Prop :=
  V_backward p (fun _ => ∃ (I24 : Nat → Int → Prop), I24 0 (0 : Int) ∧ (∀ i20 : Nat, i20 < p.length → ∀ (z23 : Int), I24 i20 z23 → (∃ (r31 : Int), V_Mul Fg z23 x (fun q => q = r31) ∧ (V_Add Fg r31 (gi p ((p.length - 1 - i20 : Nat) : Int)) (fun r37 => I24 (i20 + 1) r37)))) ∧ (∀ (z23 : Int), I24 p.length z23 → Q z23))
theorem ok_eval {w : World} {Q : Int → Prop} {Fg : GFv} {p : List Int} {x : Int} {ag : Addr} {Bg : Nat} (hgg : GFR Bg w ag Fg) {Bp : Nat} {Ap : Option Addr} {np kp : Nat} (hp : Rd Bp w 1 Ap np kp (is p)) (hv : V_eval Fg p x Q) :
    Calls Try.prog 44 #[.pointer (some ag), .slice Ap np kp, .int .i64 x] w fun e w' => ∃ v Qr, e = .returned v ∧ w.grownBy w' none ∧ Rows w.heap.size none w' Qr ∧ News w.heap.size Qr ∧ ∃ (r0 : Int), v = .int .i64 r0 ∧ Qr = [] ∧ Q r0 := by
  have hgg_ := hgg
  obtain ⟨Ag_mod, kg_mod, Ag_exp, kg_exp, Ag_log, kg_log, Ag_above, kg_above, hg_c, hg_mod, hg_exp, hg_log, hg_above⟩ := hgg_
  have hnp := hp.ilen
  subst hnp
  refine calls_swap ?_
  refine calls_of_W (vs := [.pointer (some ag), .slice Ap p.length kp, .int .i64 x]) [6] Try.func44 rfl rfl rfl rfl ?_
  have hS := St.start w
  unfold V_eval at hv
  refine W.seq ?_
  refine W.region ?_
  refine SL.box (z := 1) (cs := [.pointer (some ag)]) hS rfl rfl rfl rfl ?_
  intro g11 w12 hS
  refine SL.box (z := 1) (cs := [.int .i64 x]) hS rfl rfl rfl rfl ?_
  intro g13 w14 hS
  refine WL.assign rfl rfl ?_
  refine WL.done ?_
  refine W.seq ?_
  refine W.region ?_
  refine SL.alloc (cs := [.int .i64 (0 : Int)]) hS Try.el3 rfl rfl ?_
  intro g15 w16 hS
  refine SL.store (cs' := [.int .i64 (0 : Int)]) 0 0 hS rfl Try.el3 rfl rfl rfl (of_ble rfl) rfl ?_
  intro w17 hS
  refine WL.done ?_
  refine W.seq ?_
  refine W.seq ?_
  refine W.region ?_
  refine WL.move rfl rfl ?_
  refine SL.call hS (ok_backward (hS.ro hp) hv) Try.func65 rfl Try.nm65 rfl rfl ?_
  rintro _ _ w18 ⟨g19, rfl, rfl, hv⟩ hGw18 hS
  change St _ _ _ _ [.row 22 1 (some ⟨g19, 0, none⟩) 1 1 [.slice Ap p.length kp], .row 3 1 (some ⟨g15, 0, none⟩) 1 1 [.int .i64 (0 : Int)], .row 3 1 (some ⟨g13, 0, none⟩) 1 1 [.int .i64 x], .row 26 1 (some ⟨g11, 0, none⟩) 1 1 [.pointer (some ag)]] at hS
  refine WL.done ?_
  refine W.block ?_
  obtain ⟨I24, hv, hk41, hd42⟩ := hv
  change St _ _ _ _ [.row 22 1 (some ⟨g19, 0, none⟩) 1 1 [.slice Ap p.length kp], .row 3 1 (some ⟨g15, 0, none⟩) 1 1 [.int .i64 (0 : Int)], .row 3 1 (some ⟨g13, 0, none⟩) 1 1 [.int .i64 x], .row 26 1 (some ⟨g11, 0, none⟩) 1 1 [.pointer (some ag)]] at hS
  refine SR.range (σ := Int) (fun i q => match q with | z23 => I24 i z23) (fun z23 => [.row 22 1 (some ⟨g19, 0, none⟩) 1 1 [.slice Ap p.length kp], .row 3 1 (some ⟨g15, 0, none⟩) 1 1 [.int .i64 z23], .row 3 1 (some ⟨g13, 0, none⟩) 1 1 [.int .i64 x], .row 26 1 (some ⟨g11, 0, none⟩) 1 1 [.pointer (some ag)]]) (fun _ _ => False) (fun vs => [(3, .pointer (some ⟨g11, 0, none⟩)), (5, .pointer (some ⟨g13, 0, none⟩)), (6, .int .i64 (0 : Int)), (7, .pointer (some ⟨g15, 0, none⟩)), (9, vs.getD 1 undef)]) (0 : Int) hS hv (fun q => by obtain z23 := q; exact trivial) rfl Try.func97 rfl Try.nm97 (backward_seq (A := Ap) (m := p.length) (c := kp) (Rd.m64 (hS.ro hp))) (Below.refl _ _) (fun _ _ _ h => by obtain ⟨_, h, _⟩ := h; rw [h]; rfl) (fun i x => bw_stay) (by decide) (fun _ q _ _ hS => by obtain z23 := q; exact ⟨Own.vcells (hS.own (i := 0) rfl) 0 _ rfl, _, _, (hS.ro hp)⟩) ?_ ?_ ?_ ?_
  · intro lq vsq W1q hlq
    match vsq, hlq with
    | [a0, a1], _ =>
      refine W.region ?_
      refine WL.assign rfl rfl ?_
      refine WL.done ?_
      exact ⟨rfl, rfl, ⟨rfl, rfl, rfl, rfl, rfl, trivial⟩⟩
  · rintro lq i20 _ z23 w25 hi ⟨vb, rfl, hcell⟩ hI hS
    have hvb : vb = (gi p ((p.length - 1 - i20 : Nat) : Int)) := bw_val (hS.ro hp) (by omega) hcell
    subst hvb
    have hv := hk41 i20 hi z23 hI
    refine W.block ?_
    obtain ⟨r31, o33, hv⟩ := hv
    have hS0 := hS
    refine W.drawX 6 (fun _ => false) (fun _ => none) [⟨[], [3], false⟩, ⟨[], [3], false⟩, ⟨[], [7], false⟩, ⟨[], [5], false⟩, ⟨[1, 2, 3], [], false⟩, ⟨[], [9], true⟩] [[(3, .pointer (some ⟨g11, 0, none⟩))], [(3, .pointer (some ⟨g11, 0, none⟩))], [(7, .pointer (some ⟨g15, 0, none⟩))], [(5, .pointer (some ⟨g13, 0, none⟩))], [], [(9, .int .i64 (gi p ((p.length - 1 - i20 : Nat) : Int)))]] (fun iQ => [fun v _ => v = .pointer (some ag), fun v _ => v = .pointer (some ag), fun v _ => v = .int .i64 z23, fun v _ => v = .int .i64 x, fun v _ => v = .int .i64 r31, fun v _ => v = .int .i64 (gi p ((p.length - 1 - i20 : Nat) : Int))].getD iQ (fun _ _ => True)) Try.mixed (by kernel_rfl) ?_ (by kernel_rfl) ?_ ?_
    · refine Vs_monoT _ ?_
      intro VQ hVQ vQ wQ1 wQ2 hQ1 hQ2
      simp only [List.mem_cons, List.not_mem_nil, or_false] at hVQ
      rcases hVQ with rfl | rfl | rfl | rfl | rfl | rfl
      · exact hQ1
      · exact hQ1
      · exact hQ1
      · exact hQ1
      · exact hQ1
      · exact hQ1
    · refine ⟨⟨rfl, ⟨rfl, trivial⟩, ?_⟩, ⟨rfl, ⟨rfl, trivial⟩, ?_⟩, ⟨rfl, ⟨rfl, trivial⟩, ?_⟩, ⟨rfl, ⟨rfl, trivial⟩, ?_⟩, ⟨rfl, trivial, ?_⟩, ⟨rfl, ⟨rfl, trivial⟩, ?_⟩, trivial⟩
      · intro w26 hE
        have hE := hE rfl
        have hS := hS.grow hE
        intro RR
        refine WL.load Try.underlying26 rfl rfl (Own.vcells (hS.own (i := 3) rfl) 0 _ rfl) rfl ?_
        exact WL.done ⟨_, rfl, ext_refl _, rfl, (fun h => absurd h (by decide)), (fun j h => by cases h)⟩
      · intro w27 hE
        have hE := hE rfl
        have hS := hS.grow hE
        intro RR
        refine WL.load Try.underlying26 rfl rfl (Own.vcells (hS.own (i := 3) rfl) 0 _ rfl) rfl ?_
        exact WL.done ⟨_, rfl, ext_refl _, rfl, (fun h => absurd h (by decide)), (fun j h => by cases h)⟩
      · intro w28 hE
        have hE := hE rfl
        have hS := hS.grow hE
        intro RR
        refine WL.load Try.underlying3 rfl rfl (Own.vcells (hS.own (i := 1) rfl) 0 _ rfl) rfl ?_
        exact WL.done ⟨_, rfl, ext_refl _, rfl, (fun h => absurd h (by decide)), (fun j h => by cases h)⟩
      · intro w29 hE
        have hE := hE rfl
        have hS := hS.grow hE
        intro RR
        refine WL.load Try.underlying3 rfl rfl (Own.vcells (hS.own (i := 2) rfl) 0 _ rfl) rfl ?_
        exact WL.done ⟨_, rfl, ext_refl _, rfl, (fun h => absurd h (by decide)), (fun j h => by cases h)⟩
      · intro w30 hE
        have hE := hE rfl
        have hS := hS.grow hE
        rintro _ rfl
        rintro _ rfl
        rintro _ rfl
        intro RR
        refine WL.call Try.func74 rfl Try.nm74 rfl rfl (calls_un (ok_Mul (GFR.ext (GFR.norm hgg) hS.ext) o33)) ?_
        rintro _ w32 ⟨_, hGw32, hRww32, hNww32, r31q, rfl, rfl, he⟩
        subst he
        exact WL.done ⟨_, rfl, hGw32, rfl, (fun h => absurd h (by decide)), (fun j h => by cases h)⟩
      · intro w34 hE
        intro RR
        refine WL.move rfl rfl ?_
        exact WL.done ⟨_, rfl, rfl, rfl, (fun h => absurd h (by decide)), (fun j h => by cases h)⟩
    · intro vals w35 hT hVs hAp hCp
      have hS := hS.grow hT
      have hv0 : vals 0 = _ := hVs 0 (by decide)
      have hv1 : vals 1 = _ := hVs 1 (by decide)
      have hv2 : vals 2 = _ := hVs 2 (by decide)
      have hv3 : vals 3 = _ := hVs 3 (by decide)
      have hv4 : vals 4 = _ := hVs 4 (by decide)
      have hv5 : vals 5 = _ := hVs 5 (by decide)
      rw [show (List.filterMap (fun i => Option.map (fun t => (t, vals i)) (dstAt _ i)) (List.range _)) = [(14, .pointer (some ag)), (15, .pointer (some ag)), (16, .int .i64 z23), (17, .int .i64 x), (18, .int .i64 r31), (19, .int .i64 (gi p ((p.length - 1 - i20 : Nat) : Int)))] from by
        show [(14, vals 0), (15, vals 1), (16, vals 2), (17, vals 3), (18, vals 4), (19, vals 5)] = _
        rw [hv0, hv1, hv2, hv3, hv4, hv5]]
      refine WA.step [6] (by decide +kernel) rfl ?_
      intro iQ hQ
      simp only [List.mem_cons, List.not_mem_nil, or_false] at hQ
      obtain rfl := hQ
      refine ⟨_, rfl, ?_⟩
      refine SL.call hS (ok_Add (GFR.ext (GFR.norm hgg) hS.ext) hv) Try.func67 rfl Try.nm67 rfl rfl ?_
      rintro _ _ w36 ⟨r37, rfl, rfl, hv⟩ hGw36 hS
      change St _ _ _ _ [.row 22 1 (some ⟨g19, 0, none⟩) 1 1 [.slice Ap p.length kp], .row 3 1 (some ⟨g15, 0, none⟩) 1 1 [.int .i64 z23], .row 3 1 (some ⟨g13, 0, none⟩) 1 1 [.int .i64 x], .row 26 1 (some ⟨g11, 0, none⟩) 1 1 [.pointer (some ag)]] at hS
      refine WL.done ?_
      refine WA.step [7] (by decide +kernel) rfl ?_
      intro iQ hQ
      simp only [List.mem_cons, List.not_mem_nil, or_false] at hQ
      obtain rfl := hQ
      refine ⟨_, rfl, ?_⟩
      refine SL.store (cs' := [.int .i64 r37]) 1 0 hS rfl Try.el3 rfl rfl rfl (of_ble rfl) rfl ?_
      intro w38 hS
      refine WL.done ?_
      refine WA.done (by decide +kernel) ?_
      change St _ _ _ _ [.row 22 1 (some ⟨g19, 0, none⟩) 1 1 [.slice Ap p.length kp], .row 3 1 (some ⟨g15, 0, none⟩) 1 1 [.int .i64 r37], .row 3 1 (some ⟨g13, 0, none⟩) 1 1 [.int .i64 x], .row 26 1 (some ⟨g11, 0, none⟩) 1 1 [.pointer (some ag)]] at hS
      exact ⟨r37, hv, hS⟩
  · rintro D39 z23 w40 hv hD hS
    have hv := hd42 z23 hv
    refine W.seq ?_
    refine W.region ?_
    refine WL.load Try.underlying3 rfl rfl (Own.vcells (hS.own (i := 2) rfl) 0 _ rfl) rfl ?_
    refine WL.assign rfl rfl ?_
    refine WL.done ?_
    refine W.ret ?_
    have hS := hS.pick [0] rfl
    obtain ⟨hDD39, hS⟩ := hS.taken trivial
    refine ⟨_, rfl, Fin.cons hDD39 (Fin.nil ?_)⟩
    exact ⟨_, hS.ext, (hS.pick [] rfl).rows, News.of (hS.pick [] rfl).rows rfl, ⟨z23, rfl, rfl, hv⟩⟩
  · rintro _ e _ _ _ hv; exact hv.elim

def V_fromRoots (Fg : GFv) (rs : List Int) (Q : List Int → Prop) : Prop :=
  ∃ (I29 : List Int → Int → Prop) (μ30 : List Int → Int → Nat), I29 ([(1 : Int)] : List Int) (0 : Int) ∧ ∀ (x24 : List Int) (z28 : Int), (I29 x24 z28 → (((z28 < ((rs.length : Nat) : Int)) → ((0 ≤ z28 ∧ z28 < (rs.length : Nat)) ∧ (V_Neg Fg (gi rs z28) (fun r35 => V_times Fg x24 ([r35, (1 : Int)] : List Int) (fun x40 => (I64 (z28 + (1 : Int))) ∧ (I29 x40 (z28 + (1 : Int)) ∧ μ30 x40 (z28 + (1 : Int)) < μ30 x24 z28)))))) ∧ (¬ (z28 < ((rs.length : Nat) : Int)) → Q x24)))
theorem ok_fromRoots {w : World} {Q : List Int → Prop} {Fg : GFv} {rs : List Int} {ag : Addr} {Bg : Nat} (hgg : GFR Bg w ag Fg) {Brs : Nat} {Ars : Option Addr} {nrs krs : Nat} (hrs : Rd Brs w 1 Ars nrs krs (is rs)) (hv : V_fromRoots Fg rs Q) :
    Calls Try.prog 48 #[.pointer (some ag), .slice Ars nrs krs] w fun e w' => ∃ v Qr, e = .returned v ∧ w.grownBy w' none ∧ Rows w.heap.size none w' Qr ∧ News w.heap.size Qr ∧ ∃ (r0 : List Int) (Ar0 : Option Addr) (cr0 : Nat), v = .slice Ar0 r0.length cr0 ∧ Qr = [.row 3 1 Ar0 r0.length cr0 (is r0)] ∧ Q r0 := by
  have hgg_ := hgg
  obtain ⟨Ag_mod, kg_mod, Ag_exp, kg_exp, Ag_log, kg_log, Ag_above, kg_above, hg_c, hg_mod, hg_exp, hg_log, hg_above⟩ := hgg_
  have hnrs := hrs.ilen
  subst hnrs
  refine calls_swap ?_
  refine calls_of_W (vs := [.pointer (some ag), .slice Ars rs.length krs]) [4] Try.func48 rfl rfl rfl rfl ?_
  have hS := St.start w
  unfold V_fromRoots at hv
  refine W.seq ?_
  refine W.region ?_
  refine WL.assign rfl rfl ?_
  refine WL.done ?_
  refine W.seq ?_
  refine W.region ?_
  refine SL.lit1 (vs := is ([(1 : Int)] : List Int)) hS Try.underlying22 Try.el3 rfl rfl rfl rfl (is_one _) rfl ?_
  intro A11 w12 hS
  refine WL.assign rfl rfl ?_
  refine WL.done ?_
  refine W.seq ?_
  refine W.seq ?_
  refine W.region ?_
  refine WL.move rfl rfl ?_
  refine WL.len Try.underlying22 rfl rfl ?_
  refine WL.move rfl rfl ?_
  refine WL.done ?_
  refine W.block ?_
  obtain ⟨I29, μ30, hv, hk45⟩ := hv
  have hm0 : 1 = ([(1 : Int)] : List Int).length := (hS.rd (i := 0) rfl).ilen.symm
  have hS := hS.relen (i := 0) rfl hm0
  change St _ _ _ _ [.row 3 1 A11 ([(1 : Int)] : List Int).length 1 (is ([(1 : Int)] : List Int))] at hS
  refine W.loop (σ := List Int × Int × Option Addr × Nat) (fun q w1 => match q with | (x24, z28, A25, k26) => I29 x24 z28 ∧ St TT w none w1 [.row 3 1 A25 x24.length k26 (is x24)]) (fun q => match q with | (x24, z28, A25, k26) => [(0, .pointer (some ag)), (4, .slice none 0 0), (5, .slice A25 x24.length k26), (9, .slice Ars rs.length krs), (10, .int .i64 ((rs.length : Nat) : Int)), (11, .int .i64 z28)]) (fun q => match q with | (x24, z28, A25, k26) => μ30 x24 z28) (([(1 : Int)] : List Int), (0 : Int), A11, 1) ⟨hv, hS⟩ ⟨rfl, rfl, (sm (by first | rfl | assumption | omega)), rfl, rfl, rfl, trivial⟩ ?_
  rintro ⟨x24, z28, A25, k26⟩ w31 ⟨hv, hS⟩
  have hv := hk45 x24 z28 hv
  refine W.seq ?_
  refine W.region ?_
  refine WL.lssD rfl rfl rfl ?_
  refine WL.done ?_
  refine W.seq ?_
  refine W.cond2 rfl (fun c32 => ?_) (fun c32 => ?_)
  · have hv := hv.1 (of_decide_eq_true c32)
    refine W.skip ?_
    refine W.seq ?_
    refine W.block ?_
    refine W.seq ?_
    refine W.region ?_
    obtain ⟨o33, hv⟩ := hv
    refine SL.index Try.underlying22 Try.el3 (hS.ro hrs) rfl rfl o33 rfl ?_
    refine WL.load Try.underlying3 rfl rfl (Rd.gi (hS.ro hrs) o33) rfl ?_
    refine WL.assign rfl rfl ?_
    refine WL.done ?_
    refine W.region ?_
    refine WL.move rfl rfl ?_
    refine WL.move rfl rfl ?_
    refine WL.move rfl rfl ?_
    refine WL.move rfl rfl ?_
    refine SL.call hS (ok_Neg (GFR.ext (GFR.norm hgg) hS.ext) hv) Try.func76 rfl Try.nm76 rfl rfl ?_
    rintro _ _ w34 ⟨r35, rfl, rfl, hv⟩ hGw34 hS
    change St _ _ _ _ [.row 3 1 A25 x24.length k26 (is x24)] at hS
    refine SL.lit1 (vs := is ([r35, (1 : Int)] : List Int)) hS Try.underlying22 Try.el3 rfl rfl rfl rfl (is_one _) rfl ?_
    intro A36 w37 hS
    refine SL.call hS (ok_times (GFR.ext (GFR.norm hgg) hS.ext) (hS.rd (i := 1) rfl) (hS.rd (i := 0) rfl) hv) Try.func70 rfl Try.nm70 rfl rfl ?_
    rintro _ _ w39 ⟨x40, A41, k42, rfl, rfl, hv⟩ hGw39 hS
    change St _ _ _ _ [.row 3 1 A41 x40.length k42 (is x40), .row 3 1 A36 2 2 (is ([r35, (1 : Int)] : List Int)), .row 3 1 A25 x24.length k26 (is x24)] at hS
    refine WL.assign rfl rfl ?_
    refine WL.done ?_
    refine W.region ?_
    obtain ⟨o44, hv⟩ := hv
    refine WL.add (r := (z28 + (1 : Int))) rfl rfl (wr o44) rfl ?_
    refine WL.move rfl rfl ?_
    refine WL.done ?_
    have hS := hS.pick [0] rfl
    change St _ _ _ _ [.row 3 1 A41 x40.length k42 (is x40)] at hS
    exact ⟨(x40, (z28 + (1 : Int)), A41, k42), ⟨rfl, rfl, rfl, rfl, rfl, rfl, trivial⟩, hv.2, rfl, hv.1, hS⟩
  · have hv := hv.2 (of_decide_eq_false c32)
    refine W.exit ?_
    refine W.seq ?_
    refine W.region ?_
    refine WL.move rfl rfl ?_
    refine WL.assign rfl rfl ?_
    refine WL.done ?_
    refine W.ret ?_
    refine ⟨_, rfl, Fin.nil ?_⟩
    exact ⟨_, hS.ext, (hS.pick [0] rfl).rows, News.of (hS.pick [0] rfl).rows rfl, ⟨x24, A25, k26, rfl, rfl, hv⟩⟩

end Go.Proofs.Ytmdigamgojfjdaa
