/- What only this law leans on. -/
import Derived.Test.YtmdigamgojfjdaaPolyAddsG12
set_option linter.unusedVariables false
namespace Go.Proofs.Ytmdigamgojfjdaa
open Go.RowKit
theorem Try.nm35 : (Try.f35.name == "runtime.NumGoroutine") = false := by kernel_rfl
end Go.Proofs.Ytmdigamgojfjdaa
set_option linter.unusedSimpArgs false
set_option linter.unusedVariables false
namespace Go.Proofs.Ytmdigamgojfjdaa
open Go.RowKit
def V_pshift (Fg : GFv) (p : List Int) (n : Int) (Q : List Int × Int → Prop) : Prop :=
  ((n < (0 : Int)) → (Q (([] : List Int), (6 : Int)))) ∧ (¬ (n < (0 : Int)) → ((((4096 : Int) < n) → (Q (([] : List Int), (6 : Int)))) ∧ (¬ ((4096 : Int) < n) → ((0 ≤ n ∧ n * 8 ≤ 281474976710656 ∧ n ≤ 281474976710656) ∧ (∃ (x25 : List Int), V_canon Fg p (fun q => q = x25) ∧ ((((n.toNat : Nat) + (x25.length : Nat) : Int) * 8 ≤ 140737488355328) ∧ (V_trim Fg ((List.replicate n.toNat (0 : Int)) ++ x25) (fun j41 => (0 ≤ j41 ∧ j41 ≤ (((List.replicate n.toNat (0 : Int)) ++ x25).length : Nat)) ∧ (Q (((List.replicate n.toNat (0 : Int)) ++ x25).take j41.toNat, (0 : Int)))))))))))
theorem ok_pshift {w : World} {Q : List Int × Int → Prop} {Fg : GFv} {p : List Int} {n : Int} {ag : Addr} {Bg : Nat} (hgg : GFR Bg w ag Fg) {Bp : Nat} {Ap : Option Addr} {np kp : Nat} (hp : Rd Bp w 1 Ap np kp (is p)) (hv : V_pshift Fg p n Q) :
    Calls Try.prog 35 #[.pointer (some ag), .slice Ap np kp, .int .i64 n] w fun e w' => ∃ v Qr, e = .returned v ∧ w.grownBy w' none ∧ Rows w.heap.size none w' Qr ∧ News w.heap.size Qr ∧ ∃ (r0 : List Int) (r1 : Int) (Ar0 : Option Addr) (cr0 : Nat), v = .tuple #[.slice Ar0 r0.length cr0, .int .i64 r1] ∧ Qr = [.row 3 1 Ar0 r0.length cr0 (is r0)] ∧ Q (r0, r1) := by
  have hgg_ := hgg
  obtain ⟨Ag_mod, kg_mod, Ag_exp, kg_exp, Ag_log, kg_log, Ag_above, kg_above, hg_c, hg_mod, hg_exp, hg_log, hg_above⟩ := hgg_
  have hnp := hp.ilen
  subst hnp
  refine calls_swap ?_
  refine calls_of_W (vs := [.pointer (some ag), .slice Ap p.length kp, .int .i64 n]) [6, 7] Try.func35 rfl rfl rfl rfl ?_
  have hS := St.start w
  unfold V_pshift at hv
  refine W.seq ?_
  refine W.region ?_
  refine WL.assign rfl rfl ?_
  refine WL.assign rfl rfl ?_
  refine WL.done ?_
  refine W.seq ?_
  refine W.seq ?_
  refine W.region ?_
  refine WL.move rfl rfl ?_
  refine WL.lssD rfl rfl rfl ?_
  refine WL.move rfl rfl ?_
  by_cases g11 : n < (0 : Int)
  · have hv := hv.1 g11
    rw [decide_eq_true g11]
    refine WL.pass rfl rfl rfl ?_
    refine WL.pass rfl rfl rfl ?_
    refine WL.pick rfl rfl rfl ?_
    refine WL.done ?_
    refine W.condT rfl ?_
    refine W.seq ?_
    refine W.region ?_
    refine WL.assign rfl rfl ?_
    refine WL.assign rfl rfl ?_
    refine WL.done ?_
    refine W.ret ?_
    have hS := hS.nil (e := 3) (z := 1)
    refine ⟨_, rfl, Fin.nil ?_⟩
    exact ⟨_, hS.ext, (hS.pick [0] rfl).rows, News.of (hS.pick [0] rfl).rows rfl, ⟨([] : List Int), (6 : Int), none, 0, rfl, rfl, hv⟩⟩
  · have hv := hv.2 g11
    rw [decide_eq_false g11]
    refine WL.take rfl ?_
    refine WL.move rfl rfl ?_
    refine WL.take rfl ?_
    refine WL.gtrD rfl rfl rfl ?_
    refine WL.pick rfl rfl rfl ?_
    refine WL.done ?_
    refine W.cond2 rfl (fun c12 => ?_) (fun c12 => ?_)
    · have hv := hv.1 (of_decide_eq_true c12)
      refine W.seq ?_
      refine W.region ?_
      refine WL.assign rfl rfl ?_
      refine WL.assign rfl rfl ?_
      refine WL.done ?_
      refine W.ret ?_
      have hS := hS.nil (e := 3) (z := 1)
      refine ⟨_, rfl, Fin.nil ?_⟩
      exact ⟨_, hS.ext, (hS.pick [0] rfl).rows, News.of (hS.pick [0] rfl).rows rfl, ⟨([] : List Int), (6 : Int), none, 0, rfl, rfl, hv⟩⟩
    · have hv := hv.2 (of_decide_eq_false c12)
      refine W.skip ?_
      refine W.seq ?_
      obtain ⟨o16, hv⟩ := hv
      obtain ⟨x25, o32, hv⟩ := hv
      have hS0 := hS
      refine W.drawXF 6 0 (fun iA => [false, false, true, false, false, true].getD iA false) (fun _ => none) [⟨[], [0], true⟩, ⟨[], [2], true⟩, ⟨[1], [], false⟩, ⟨[], [0], true⟩, ⟨[], [1], true⟩, ⟨[3, 4], [], false⟩] [[(0, .pointer (some ag))], [(2, .int .i64 n)], [], [(0, .pointer (some ag))], [(1, .slice Ap p.length kp)], []] (fun iQ => [fun v _ => v = .pointer (some ag), fun v _ => v = .int .i64 n, fun v wQ => ∃ A17_2 k21_2, v = .slice A17_2 n.toNat k21_2 ∧ Own 0 wQ 3 1 A17_2 n.toNat k21_2 (is (List.replicate n.toNat (0 : Int))) ∧ (∀ g, bl A17_2 = some g → w.heap.size ≤ g), fun v _ => v = .pointer (some ag), fun v _ => v = .slice Ap p.length kp, fun v wQ => ∃ A26_5 k27_5, v = .slice A26_5 x25.length k27_5 ∧ Own 0 wQ 3 1 A26_5 x25.length k27_5 (is x25) ∧ (∀ g, bl A26_5 = some g → w.heap.size ≤ g)].getD iQ (fun _ _ => True)) Try.mixed (by kernel_rfl) ?_ (by kernel_rfl) ?_ ?_ ?_
      · refine Vs_monoT _ ?_
        intro VQ hVQ vQ wQ1 wQ2 hQ1 hQ2
        simp only [List.mem_cons, List.not_mem_nil, or_false] at hVQ
        rcases hVQ with rfl | rfl | rfl | rfl | rfl | rfl
        · exact hQ1
        · exact hQ1
        · obtain ⟨A17_2, k21_2, hQe, hO19_2, hN20_2⟩ := hQ1
          exact ⟨A17_2, k21_2, hQe, hO19_2.ext hQ2, hN20_2⟩
        · exact hQ1
        · exact hQ1
        · obtain ⟨A26_5, k27_5, hQe, hO30_5, hN31_5⟩ := hQ1
          exact ⟨A26_5, k27_5, hQe, hO30_5.ext hQ2, hN31_5⟩
      · refine ⟨⟨rfl, ⟨rfl, trivial⟩, ?_⟩, ⟨rfl, ⟨rfl, trivial⟩, ?_⟩, ⟨rfl, trivial, ?_⟩, ⟨rfl, ⟨rfl, trivial⟩, ?_⟩, ⟨rfl, ⟨rfl, trivial⟩, ?_⟩, ⟨rfl, trivial, ?_⟩, trivial⟩
        · intro w13 hE
          intro RR
          refine WL.move rfl rfl ?_
          exact WL.done ⟨_, rfl, rfl, rfl, (fun h => absurd h (by decide)), (fun j h => by cases h)⟩
        · intro w14 hE
          intro RR
          refine WL.move rfl rfl ?_
          exact WL.done ⟨_, rfl, rfl, rfl, (fun h => absurd h (by decide)), (fun j h => by cases h)⟩
        · intro w15 hE
          have hE := hE rfl
          have hS := hS.grow hE
          rintro _ rfl
          intro RR
          refine SL.makeL (J := n) Try.underlying22 Try.el3 rfl rfl o16 (made_is _) rfl ?_
          intro A17 k21 w18 hO19 hN20g hGw18
          have hN20 : ∀ g, bl A17 = some g → _ ≤ g := fun g hg => Nat.le_trans hE.size (hN20g g hg)
          exact WL.done ⟨_, rfl, hGw18, ⟨A17, k21, rfl, hO19, hN20⟩, (fun _ => fun g hg => ⟨hN20g g hg, (hO19.bl_ge g hg).2⟩), (fun j h => by cases h)⟩
        · intro w22 hE
          intro RR
          refine WL.move rfl rfl ?_
          exact WL.done ⟨_, rfl, rfl, rfl, (fun h => absurd h (by decide)), (fun j h => by cases h)⟩
        · intro w23 hE
          intro RR
          refine WL.move rfl rfl ?_
          exact WL.done ⟨_, rfl, rfl, rfl, (fun h => absurd h (by decide)), (fun j h => by cases h)⟩
        · intro w24 hE
          have hE := hE rfl
          have hS := hS.grow hE
          rintro _ rfl
          rintro _ rfl
          intro RR
          refine WL.call Try.func22 rfl Try.nm22 rfl rfl (calls_un (ok_canon (GFR.ext (GFR.norm hgg) hS.ext) (hS.ro hp) o32)) ?_
          rintro _ w29 ⟨_, hGw29, hRww29, hNww29, x25q, A26, k27, rfl, rfl, he⟩
          subst he
          have hO30 := (hRww29.get (i := 0) rfl).1
          have hN31 : ∀ g, bl A26 = some g → _ ≤ g := fun g hg => Nat.le_trans hE.size (hNww29.1 g hg)
          exact WL.done ⟨_, rfl, hGw29, ⟨A26, k27, rfl, hO30, hN31⟩, (fun _ => fun g hg => ⟨hNww29.1 g hg, (hO30.bl_ge g hg).2⟩), (fun j h => by cases h)⟩
      · intro vals w33 hT hVs hAp hCp
        have hS := hS.grow hT
        have hv0 : vals 0 = _ := hVs 0 (by decide)
        have hv1 : vals 1 = _ := hVs 1 (by decide)
        obtain ⟨A17_2, k21_2, hv2, hO19_2, hN20_2⟩ := hVs 2 (by decide)
        have hv3 : vals 3 = _ := hVs 3 (by decide)
        have hv4 : vals 4 = _ := hVs 4 (by decide)
        obtain ⟨A26_5, k27_5, hv5, hO30_5, hN31_5⟩ := hVs 5 (by decide)
        have hS := St.addOwn [] hS0 hS hO19_2 hN20_2 (fun s hs => by cases hs)
        have hap5_2 : ∀ g, bl A26_5 = some g → bl A17_2 ≠ some g := by have := hAp 5 2 (by decide) (by decide) (by decide) rfl rfl; rw [hv5, hv2] at this; exact this
        have hS := St.addOwn [.row 3 1 A17_2 n.toNat k21_2 (is (List.replicate n.toNat (0 : Int)))] hS0 hS hO30_5 hN31_5 (by intro s hs g hg; simp only [List.mem_cons, List.not_mem_nil, or_false] at hs; obtain rfl := hs; exact hap5_2 g hg)
        change St _ _ _ _ [.row 3 1 A26_5 x25.length k27_5 (is x25), .row 3 1 A17_2 n.toNat k21_2 (is (List.replicate n.toNat (0 : Int)))] at hS
        rw [show (List.filterMap (fun i => Option.map (fun t => (t, vals i)) (dstAt _ i)) (List.range _)) = [(14, .pointer (some ag)), (15, .int .i64 n), (16, .slice A17_2 n.toNat k21_2), (17, .pointer (some ag)), (18, .slice Ap p.length kp), (19, .slice A26_5 x25.length k27_5)] from by
          show [(14, vals 0), (15, vals 1), (16, vals 2), (17, vals 3), (18, vals 4), (19, vals 5)] = _
          rw [hv0, hv1, hv2, hv3, hv4, hv5]]
        refine WA.step [6] (by decide +kernel) rfl ?_
        intro iQ hQ
        simp only [List.mem_cons, List.not_mem_nil, or_false] at hQ
        obtain rfl := hQ
        refine ⟨_, rfl, ?_⟩
        obtain ⟨o36, hv⟩ := hv
        refine SL.append (cs := is (List.replicate n.toNat (0 : Int))) (cs' := is x25) 1 (((List.replicate n.toNat (0 : Int)) ++ x25).length) (is ((List.replicate n.toNat (0 : Int)) ++ x25)) hS rfl Try.underlying22 Try.el3 (hS.rd (i := 0) rfl) (is_one _) rfl rfl (apk o36).1 (apk o36).2 (is_ap (hS.rd (i := 1) rfl) (hS.rd (i := 0) rfl)) (is_append _ _) rfl ?_
        intro A37 k38 w39 hS
        refine WL.done ?_
        refine WA.step [7] (by decide +kernel) rfl ?_
        intro iQ hQ
        simp only [List.mem_cons, List.not_mem_nil, or_false] at hQ
        obtain rfl := hQ
        refine ⟨_, rfl, ?_⟩
        refine SL.call hS (ok_trim (GFR.ext (GFR.norm hgg) hS.ext) (hS.rd (i := 1) rfl) hv) Try.func71 rfl Try.nm71 rfl rfl ?_
        rintro _ _ w40 ⟨j41, rfl, rfl, hv⟩ hGw40 hS
        change St _ _ _ _ [.row 3 1 A26_5 x25.length k27_5 (is x25), .row 3 1 A37 (((List.replicate n.toNat (0 : Int)) ++ x25).length) k38 (is ((List.replicate n.toNat (0 : Int)) ++ x25))] at hS
        obtain ⟨o42, hv⟩ := hv
        refine WL.done ?_
        refine WA.step [8] (by decide +kernel) rfl ?_
        intro iQ hQ
        simp only [List.mem_cons, List.not_mem_nil, or_false] at hQ
        obtain rfl := hQ
        refine ⟨_, rfl, ?_⟩
        refine WL.assign rfl rfl ?_
        refine WL.done ?_
        refine WA.step [9] (by decide +kernel) rfl ?_
        intro iQ hQ
        simp only [List.mem_cons, List.not_mem_nil, or_false] at hQ
        obtain rfl := hQ
        refine ⟨_, rfl, ?_⟩
        refine WL.assign rfl rfl ?_
        refine WL.done ?_
        refine WA.done (by decide +kernel) ?_
        refine W.ret ?_
        have hq0 := (hS.rd (i := 1) rfl).ilen
        have hS := hS.shrink (i := 1) (k := j41.toNat) rfl (by omega)
        have hl0 : (((List.replicate n.toNat (0 : Int)) ++ x25).take j41.toNat).length = j41.toNat := by rw [List.length_take]; omega
        refine ⟨_, rfl, Fin.nil ?_⟩
        exact ⟨_, hS.ext, (hS.pick [1] rfl).rows, News.of (hS.pick [1] rfl).rows rfl, ⟨((List.replicate n.toNat (0 : Int)) ++ x25).take j41.toNat, (0 : Int), A37, k38, (by first | (rw [hl0]; done) | (rw [hl0]; rfl)), rfl, hv⟩⟩
      · intro vals w33 hT hVs hAp hCp q_ hq_
        have hS := hS.grow hT
        obtain rfl : q_ = 5 := hq_.trans (by decide +kernel)
        have hv1 : vals 1 = _ := hVs 1 (by decide) (by decide)
        obtain ⟨A17_2, k21_2, hv2, hO19_2, hN20_2⟩ := hVs 2 (by decide) (by decide)
        have hv3 : vals 3 = _ := hVs 3 (by decide) (by decide)
        have hv4 : vals 4 = _ := hVs 4 (by decide) (by decide)
        obtain ⟨A26_5, k27_5, hv5, hO30_5, hN31_5⟩ := hVs 5 (by decide) (by decide)
        have hS := St.addOwn [] hS0 hS hO19_2 hN20_2 (fun s hs => by cases hs)
        have hap5_2 : ∀ g, bl A26_5 = some g → bl A17_2 ≠ some g := by have := hAp 5 2 (by decide) (by decide) (by decide) (by decide) (by decide) rfl rfl; rw [hv5, hv2] at this; exact this
        have hS := St.addOwn [.row 3 1 A17_2 n.toNat k21_2 (is (List.replicate n.toNat (0 : Int)))] hS0 hS hO30_5 hN31_5 (by intro s hs g hg; simp only [List.mem_cons, List.not_mem_nil, or_false] at hs; obtain rfl := hs; exact hap5_2 g hg)
        change St _ _ _ _ [.row 3 1 A26_5 x25.length k27_5 (is x25), .row 3 1 A17_2 n.toNat k21_2 (is (List.replicate n.toNat (0 : Int)))] at hS
        rw [show (List.filterMap (fun i => if i = 0 then none else Option.map (fun t => (t, vals i)) (dstAt _ i)) (List.range _)) = [(15, .int .i64 n), (16, .slice A17_2 n.toNat k21_2), (17, .pointer (some ag)), (18, .slice Ap p.length kp), (19, .slice A26_5 x25.length k27_5)] from by
          show [(15, vals 1), (16, vals 2), (17, vals 3), (18, vals 4), (19, vals 5)] = _
          rw [hv1, hv2, hv3, hv4, hv5]]
        refine WA.step [0, 6] (by decide +kernel) rfl ?_
        intro iQ hQ
        simp only [List.mem_cons, List.not_mem_nil, or_false] at hQ
        rcases hQ with rfl | rfl
        · refine ⟨_, rfl, ?_⟩
          refine WL.move rfl rfl ?_
          refine WL.done ?_
          refine WA.step [6] (by decide +kernel) rfl ?_
          intro iQ hQ
          simp only [List.mem_cons, List.not_mem_nil, or_false] at hQ
          obtain rfl := hQ
          refine ⟨_, rfl, ?_⟩
          obtain ⟨o36, hv⟩ := hv
          refine SL.append (cs := is (List.replicate n.toNat (0 : Int))) (cs' := is x25) 1 (((List.replicate n.toNat (0 : Int)) ++ x25).length) (is ((List.replicate n.toNat (0 : Int)) ++ x25)) hS rfl Try.underlying22 Try.el3 (hS.rd (i := 0) rfl) (is_one _) rfl rfl (apk o36).1 (apk o36).2 (is_ap (hS.rd (i := 1) rfl) (hS.rd (i := 0) rfl)) (is_append _ _) rfl ?_
          intro A37 k38 w39 hS
          refine WL.done ?_
          refine WA.step [7] (by decide +kernel) rfl ?_
          intro iQ hQ
          simp only [List.mem_cons, List.not_mem_nil, or_false] at hQ
          obtain rfl := hQ
          refine ⟨_, rfl, ?_⟩
          refine SL.call hS (ok_trim (GFR.ext (GFR.norm hgg) hS.ext) (hS.rd (i := 1) rfl) hv) Try.func71 rfl Try.nm71 rfl rfl ?_
          rintro _ _ w40 ⟨j41, rfl, rfl, hv⟩ hGw40 hS
          change St _ _ _ _ [.row 3 1 A26_5 x25.length k27_5 (is x25), .row 3 1 A37 (((List.replicate n.toNat (0 : Int)) ++ x25).length) k38 (is ((List.replicate n.toNat (0 : Int)) ++ x25))] at hS
          obtain ⟨o42, hv⟩ := hv
          refine WL.done ?_
          refine WA.step [8] (by decide +kernel) rfl ?_
          intro iQ hQ
          simp only [List.mem_cons, List.not_mem_nil, or_false] at hQ
          obtain rfl := hQ
          refine ⟨_, rfl, ?_⟩
          refine WL.assign rfl rfl ?_
          refine WL.done ?_
          refine WA.step [9] (by decide +kernel) rfl ?_
          intro iQ hQ
          simp only [List.mem_cons, List.not_mem_nil, or_false] at hQ
          obtain rfl := hQ
          refine ⟨_, rfl, ?_⟩
          refine WL.assign rfl rfl ?_
          refine WL.done ?_
          refine WA.done (by decide +kernel) ?_
          refine W.ret ?_
          have hq0 := (hS.rd (i := 1) rfl).ilen
          have hS := hS.shrink (i := 1) (k := j41.toNat) rfl (by omega)
          have hl0 : (((List.replicate n.toNat (0 : Int)) ++ x25).take j41.toNat).length = j41.toNat := by rw [List.length_take]; omega
          refine ⟨_, rfl, Fin.nil ?_⟩
          exact ⟨_, hS.ext, (hS.pick [1] rfl).rows, News.of (hS.pick [1] rfl).rows rfl, ⟨((List.replicate n.toNat (0 : Int)) ++ x25).take j41.toNat, (0 : Int), A37, k38, (by first | (rw [hl0]; done) | (rw [hl0]; rfl)), rfl, hv⟩⟩
        · refine ⟨_, rfl, ?_⟩
          obtain ⟨o36, hv⟩ := hv
          refine SL.append (cs := is (List.replicate n.toNat (0 : Int))) (cs' := is x25) 1 (((List.replicate n.toNat (0 : Int)) ++ x25).length) (is ((List.replicate n.toNat (0 : Int)) ++ x25)) hS rfl Try.underlying22 Try.el3 (hS.rd (i := 0) rfl) (is_one _) rfl rfl (apk o36).1 (apk o36).2 (is_ap (hS.rd (i := 1) rfl) (hS.rd (i := 0) rfl)) (is_append _ _) rfl ?_
          intro A37 k38 w39 hS
          refine WL.done ?_
          refine WA.step [0] (by decide +kernel) rfl ?_
          intro iQ hQ
          simp only [List.mem_cons, List.not_mem_nil, or_false] at hQ
          obtain rfl := hQ
          refine ⟨_, rfl, ?_⟩
          refine WL.move rfl rfl ?_
          refine WL.done ?_
          refine WA.step [7] (by decide +kernel) rfl ?_
          intro iQ hQ
          simp only [List.mem_cons, List.not_mem_nil, or_false] at hQ
          obtain rfl := hQ
          refine ⟨_, rfl, ?_⟩
          refine SL.call hS (ok_trim (GFR.ext (GFR.norm hgg) hS.ext) (hS.rd (i := 1) rfl) hv) Try.func71 rfl Try.nm71 rfl rfl ?_
          rintro _ _ w40 ⟨j41, rfl, rfl, hv⟩ hGw40 hS
          change St _ _ _ _ [.row 3 1 A26_5 x25.length k27_5 (is x25), .row 3 1 A37 (((List.replicate n.toNat (0 : Int)) ++ x25).length) k38 (is ((List.replicate n.toNat (0 : Int)) ++ x25))] at hS
          obtain ⟨o42, hv⟩ := hv
          refine WL.done ?_
          refine WA.step [8] (by decide +kernel) rfl ?_
          intro iQ hQ
          simp only [List.mem_cons, List.not_mem_nil, or_false] at hQ
          obtain rfl := hQ
          refine ⟨_, rfl, ?_⟩
          refine WL.assign rfl rfl ?_
          refine WL.done ?_
          refine WA.step [9] (by decide +kernel) rfl ?_
          intro iQ hQ
          simp only [List.mem_cons, List.not_mem_nil, or_false] at hQ
          obtain rfl := hQ
          refine ⟨_, rfl, ?_⟩
          refine WL.assign rfl rfl ?_
          refine WL.done ?_
          refine WA.done (by decide +kernel) ?_
          refine W.ret ?_
          have hq0 := (hS.rd (i := 1) rfl).ilen
          have hS := hS.shrink (i := 1) (k := j41.toNat) rfl (by omega)
          have hl0 : (((List.replicate n.toNat (0 : Int)) ++ x25).take j41.toNat).length = j41.toNat := by rw [List.length_take]; omega
          refine ⟨_, rfl, Fin.nil ?_⟩
          exact ⟨_, hS.ext, (hS.pick [1] rfl).rows, News.of (hS.pick [1] rfl).rows rfl, ⟨((List.replicate n.toNat (0 : Int)) ++ x25).take j41.toNat, (0 : Int), A37, k38, (by first | (rw [hl0]; done) | (rw [hl0]; rfl)), rfl, hv⟩⟩

end Go.Proofs.Ytmdigamgojfjdaa
set_option linter.unusedSimpArgs false
set_option linter.unusedVariables false
namespace Go.Proofs.Ytmdigamgojfjdaa
open Go.RowKit
def V_PolyShifts (Pf : Int) (Mf : Int) (mf : List Int) (p : List Int) (n : Int) (Q : Bool → Prop) : Prop :=
  V_alive  (fun r14 => (((!r14) = true) → Q false) ∧ ((!r14) = false → (V_made Pf Mf mf (fun q => match q with | none => Q true | some F19 => V_short ([p] : List (List Int)) (fun r29 => (((!r29) = true) → Q true) ∧ ((!r29) = false → (V_pshift F19 p n (fun q => match q with | (x32, r36) => ((n < (0 : Int)) → (((r36 = (6 : Int)) → (Q (decide (((x32.length : Nat) : Int) = (0 : Int))))) ∧ (¬ (r36 = (6 : Int)) → Q false))) ∧ (¬ (n < (0 : Int)) → ((((4096 : Int) < n) → (((r36 = (6 : Int)) → (Q (decide (((x32.length : Nat) : Int) = (0 : Int))))) ∧ (¬ (r36 = (6 : Int)) → Q false))) ∧ (¬ ((4096 : Int) < n) → (V_rcanon Pf Mf mf p (fun x42 => ∃ J50 : List Int → Prop, ((((0 : Int) < ((x42.length : Nat) : Int)) → ((0 ≤ n ∧ n * 8 ≤ 281474976710656 ∧ n ≤ 281474976710656) ∧ ((((n.toNat : Nat) + (x42.length : Nat) : Int) * 8 ≤ 140737488355328) ∧ (J50 ((List.replicate n.toNat (0 : Int)) ++ x42))))) ∧ (¬ ((0 : Int) < ((x42.length : Nat) : Int)) → J50 x42)) ∧ ∀ (x46 : List Int), (J50 x46 → (((r36 = (0 : Int)) → (V_lsame x32 x46 (fun r63 => Q r63))) ∧ (¬ (r36 = (0 : Int)) → Q false))))))))))))))))
theorem ok_PolyShifts {w : World} {Q : Bool → Prop} {Pf : Int} {Mf : Int} {mf : List Int} {p : List Int} {n : Int} {Bf : Nat} {Af : Option Addr} {nf kf : Nat} (hf : Rd Bf w 1 Af nf kf (is mf)) {Bp : Nat} {Ap : Option Addr} {np kp : Nat} (hp : Rd Bp w 1 Ap np kp (is p)) (hv : V_PolyShifts Pf Mf mf p n Q) :
    Calls Try.prog 6 #[.agg #[.int .i64 Pf, .int .i64 Mf, .slice Af nf kf], .slice Ap np kp, .int .i64 n] w fun e w' => ∃ v Qr, e = .returned v ∧ w.grownBy w' none ∧ Rows w.heap.size none w' Qr ∧ News w.heap.size Qr ∧ ∃ (r0 : Bool), v = .bool r0 ∧ Qr = [] ∧ Q r0 := by
  have hnf := hf.ilen
  subst hnf
  have hnp := hp.ilen
  subst hnp
  refine calls_swap ?_
  refine calls_of_W (vs := [.agg #[.int .i64 Pf, .int .i64 Mf, .slice Af mf.length kf], .slice Ap p.length kp, .int .i64 n]) [6] Try.func6 rfl rfl rfl rfl ?_
  have hS := St.start w
  unfold V_PolyShifts at hv
  refine W.seq ?_
  refine W.region ?_
  refine SL.box (z := 3) (cs := [.int .i64 Pf, .int .i64 Mf, .slice Af mf.length kf]) hS rfl rfl rfl rfl ?_
  intro g11 w12 hS
  refine WL.assign rfl rfl ?_
  refine WL.done ?_
  refine W.seq ?_
  refine W.seq ?_
  refine W.region ?_
  refine SL.call hS (ok_alive  hv) Try.func20 rfl Try.nm20 rfl rfl ?_
  rintro _ _ w13 ⟨r14, rfl, rfl, hv⟩ hGw13 hS
  change St _ _ _ _ [.row 24 3 (some ⟨g11, 0, none⟩) 1 1 [.int .i64 Pf, .int .i64 Mf, .slice Af mf.length kf]] at hS
  refine WL.not rfl rfl ?_
  refine WL.done ?_
  refine W.cond2 rfl (fun c15 => ?_) (fun c15 => ?_)
  · have hv := hv.1 (c15)
    refine W.seq ?_
    refine W.region ?_
    refine WL.assign rfl rfl ?_
    refine WL.done ?_
    refine W.ret ?_
    refine ⟨_, rfl, Fin.nil ?_⟩
    exact ⟨_, hS.ext, (hS.pick [] rfl).rows, News.of (hS.pick [] rfl).rows rfl, ⟨false, rfl, rfl, hv⟩⟩
  · have hv := hv.2 (c15)
    refine W.skip ?_
    refine W.seq ?_
    refine W.region ?_
    refine WL.loadV (cs := [.int .i64 Pf, .int .i64 Mf, .slice Af mf.length kf]) Try.el24 Try.agg24 rfl rfl (Own.vcells (hS.own (i := 0) rfl)) rfl ?_
    refine SL.call hS (ok_made (hS.ro hf) hv) Try.func21 rfl Try.nm21 rfl rfl ?_
    rintro _ _ w17 ⟨o, hv, hK⟩ hGw17 hS
    cases o with
    | none =>
      obtain ⟨rfl, rfl⟩ := hK
      change St _ _ _ _ [.row 24 3 (some ⟨g11, 0, none⟩) 1 1 [.int .i64 Pf, .int .i64 Mf, .slice Af mf.length kf]] at hS
      refine WL.assign rfl rfl ?_
      refine WL.done ?_
      refine W.seq ?_
      refine W.seq ?_
      refine W.region ?_
      refine WL.move rfl rfl ?_
      refine WL.eqlPn Try.underlying26 rfl rfl rfl rfl ?_
      refine WL.move rfl rfl ?_
      refine WL.pass rfl rfl rfl ?_
      refine WL.pass rfl rfl rfl ?_
      refine WL.pass rfl rfl rfl ?_
      refine WL.pass rfl rfl rfl ?_
      refine WL.pick rfl rfl rfl ?_
      refine WL.done ?_
      refine W.condT rfl ?_
      refine W.seq ?_
      refine W.region ?_
      refine WL.assign rfl rfl ?_
      refine WL.done ?_
      refine W.ret ?_
      refine ⟨_, rfl, Fin.nil ?_⟩
      exact ⟨_, hS.ext, (hS.pick [] rfl).rows, News.of (hS.pick [] rfl).rows rfl, ⟨true, rfl, rfl, hv⟩⟩
    | some F19 =>
      obtain ⟨ad20, lo21, hi22, rfl, rfl⟩ := hK
      change St _ _ _ _ [.ch lo21 hi22 (fun wz => GFX lo21 hi22 wz ad20 F19), .row 24 3 (some ⟨g11, 0, none⟩) 1 1 [.int .i64 Pf, .int .i64 Mf, .slice Af mf.length kf]] at hS
      refine WL.assign rfl rfl ?_
      refine WL.done ?_
      refine W.seq ?_
      refine W.seq ?_
      refine W.region ?_
      refine WL.move rfl rfl ?_
      refine WL.eqlPn Try.underlying26 rfl rfl rfl rfl ?_
      refine WL.move rfl rfl ?_
      refine WL.take rfl ?_
      refine WL.move rfl rfl ?_
      refine WL.take rfl ?_
      refine SL.lit1 (vs := [.slice Ap p.length kp]) hS Try.underlying37 Try.el22 rfl rfl rfl rfl (by simp [Value.oneCell']) rfl ?_
      intro A25 w26 hS
      refine WL.take rfl ?_
      refine SL.call hS (ok_short (ls := ([p] : List (List Int))) ⟨_, _, (hS.rd (i := 0) rfl), ⟨⟨_, _, _, rfl, (Rd.is_m (hS.ro hp))⟩, trivial⟩⟩ hv) Try.func26 rfl Try.nm26 rfl rfl ?_
      rintro _ _ w28 ⟨r29, rfl, rfl, hv⟩ hGw28 hS
      change St _ _ _ _ [.row 22 1 A25 1 1 [.slice Ap p.length kp], .ch lo21 hi22 (fun wz => GFX lo21 hi22 wz ad20 F19), .row 24 3 (some ⟨g11, 0, none⟩) 1 1 [.int .i64 Pf, .int .i64 Mf, .slice Af mf.length kf]] at hS
      refine WL.take rfl ?_
      refine WL.not rfl rfl ?_
      refine WL.pick rfl rfl rfl ?_
      refine WL.done ?_
      refine W.cond2 rfl (fun c30 => ?_) (fun c30 => ?_)
      · have hv := hv.1 (c30)
        refine W.seq ?_
        refine W.region ?_
        refine WL.assign rfl rfl ?_
        refine WL.done ?_
        refine W.ret ?_
        refine ⟨_, rfl, Fin.nil ?_⟩
        exact ⟨_, hS.ext, (hS.pick [] rfl).rows, News.of (hS.pick [] rfl).rows rfl, ⟨true, rfl, rfl, hv⟩⟩
      · have hv := hv.2 (c30)
        refine W.skip ?_
        refine W.seq ?_
        refine W.region ?_
        refine WL.move rfl rfl ?_
        refine WL.move rfl rfl ?_
        refine WL.move rfl rfl ?_
        refine SL.call hS (ok_pshift (GFX.gfr (hS.chunk (i := 1) rfl)) (hS.ro hp) hv) Try.func35 rfl Try.nm35 rfl rfl ?_
        rintro _ _ w31 ⟨x32, r36, A33, k34, rfl, rfl, hv⟩ hGw31 hS
        change St _ _ _ _ [.row 3 1 A33 x32.length k34 (is x32), .row 22 1 A25 1 1 [.slice Ap p.length kp], .ch lo21 hi22 (fun wz => GFX lo21 hi22 wz ad20 F19), .row 24 3 (some ⟨g11, 0, none⟩) 1 1 [.int .i64 Pf, .int .i64 Mf, .slice Af mf.length kf]] at hS
        refine WL.move rfl rfl ?_
        refine WL.extract rfl rfl rfl ?_
        refine WL.extract rfl rfl rfl ?_
        refine WL.assign rfl rfl ?_
        refine WL.assign rfl rfl ?_
        refine WL.done ?_
        refine W.seq ?_
        refine W.seq ?_
        refine W.region ?_
        refine WL.move rfl rfl ?_
        refine WL.lssD rfl rfl rfl ?_
        refine WL.move rfl rfl ?_
        by_cases g37 : n < (0 : Int)
        · have hv := hv.1 g37
          rw [decide_eq_true g37]
          refine WL.pass rfl rfl rfl ?_
          refine WL.pass rfl rfl rfl ?_
          refine WL.pick rfl rfl rfl ?_
          refine WL.done ?_
          refine W.condT rfl ?_
          refine W.seq ?_
          refine W.region ?_
          refine WL.move rfl rfl ?_
          refine WL.eqlD rfl rfl rfl ?_
          refine WL.move rfl rfl ?_
          by_cases g38 : r36 = (6 : Int)
          · have hv := hv.1 g38
            rw [decide_eq_true g38]
            refine WL.take rfl ?_
            refine WL.move rfl rfl ?_
            refine WL.take rfl ?_
            refine WL.len Try.underlying22 rfl rfl ?_
            refine WL.take rfl ?_
            refine WL.eqlD rfl rfl rfl ?_
            refine WL.pick rfl rfl rfl ?_
            refine WL.assign rfl rfl ?_
            refine WL.done ?_
            refine W.ret ?_
            refine ⟨_, rfl, Fin.nil ?_⟩
            exact ⟨_, hS.ext, (hS.pick [] rfl).rows, News.of (hS.pick [] rfl).rows rfl, ⟨(decide (((x32.length : Nat) : Int) = (0 : Int))), rfl, rfl, hv⟩⟩
          · have hv := hv.2 g38
            rw [decide_eq_false g38]
            refine WL.pass rfl rfl rfl ?_
            refine WL.pass rfl rfl rfl ?_
            refine WL.pass rfl rfl rfl ?_
            refine WL.pick rfl rfl rfl ?_
            refine WL.assign rfl rfl ?_
            refine WL.done ?_
            refine W.ret ?_
            refine ⟨_, rfl, Fin.nil ?_⟩
            exact ⟨_, hS.ext, (hS.pick [] rfl).rows, News.of (hS.pick [] rfl).rows rfl, ⟨false, rfl, rfl, hv⟩⟩
        · have hv := hv.2 g37
          rw [decide_eq_false g37]
          refine WL.take rfl ?_
          refine WL.move rfl rfl ?_
          refine WL.take rfl ?_
          refine WL.gtrD rfl rfl rfl ?_
          refine WL.pick rfl rfl rfl ?_
          refine WL.done ?_
          refine W.cond2 rfl (fun c39 => ?_) (fun c39 => ?_)
          · have hv := hv.1 (of_decide_eq_true c39)
            refine W.seq ?_
            refine W.region ?_
            refine WL.move rfl rfl ?_
            refine WL.eqlD rfl rfl rfl ?_
            refine WL.move rfl rfl ?_
            by_cases g40 : r36 = (6 : Int)
            · have hv := hv.1 g40
              rw [decide_eq_true g40]
              refine WL.take rfl ?_
              refine WL.move rfl rfl ?_
              refine WL.take rfl ?_
              refine WL.len Try.underlying22 rfl rfl ?_
              refine WL.take rfl ?_
              refine WL.eqlD rfl rfl rfl ?_
              refine WL.pick rfl rfl rfl ?_
              refine WL.assign rfl rfl ?_
              refine WL.done ?_
              refine W.ret ?_
              refine ⟨_, rfl, Fin.nil ?_⟩
              exact ⟨_, hS.ext, (hS.pick [] rfl).rows, News.of (hS.pick [] rfl).rows rfl, ⟨(decide (((x32.length : Nat) : Int) = (0 : Int))), rfl, rfl, hv⟩⟩
            · have hv := hv.2 g40
              rw [decide_eq_false g40]
              refine WL.pass rfl rfl rfl ?_
              refine WL.pass rfl rfl rfl ?_
              refine WL.pass rfl rfl rfl ?_
              refine WL.pick rfl rfl rfl ?_
              refine WL.assign rfl rfl ?_
              refine WL.done ?_
              refine W.ret ?_
              refine ⟨_, rfl, Fin.nil ?_⟩
              exact ⟨_, hS.ext, (hS.pick [] rfl).rows, News.of (hS.pick [] rfl).rows rfl, ⟨false, rfl, rfl, hv⟩⟩
          · have hv := hv.2 (of_decide_eq_false c39)
            refine W.skip ?_
            refine W.seq ?_
            refine W.region ?_
            refine WL.loadV (cs := [.int .i64 Pf, .int .i64 Mf, .slice Af mf.length kf]) Try.el24 Try.agg24 rfl rfl (Own.vcells (hS.own (i := 3) rfl)) rfl ?_
            refine WL.move rfl rfl ?_
            refine SL.call hS (ok_rcanon (hS.ro hf) (hS.ro hp) hv) Try.func24 rfl Try.nm24 rfl rfl ?_
            rintro _ _ w41 ⟨x42, A43, k44, rfl, rfl, hv⟩ hGw41 hS
            change St _ _ _ _ [.row 3 1 A43 x42.length k44 (is x42), .row 3 1 A33 x32.length k34 (is x32), .row 22 1 A25 1 1 [.slice Ap p.length kp], .ch lo21 hi22 (fun wz => GFX lo21 hi22 wz ad20 F19), .row 24 3 (some ⟨g11, 0, none⟩) 1 1 [.int .i64 Pf, .int .i64 Mf, .slice Af mf.length kf]] at hS
            refine WL.assign rfl rfl ?_
            refine WL.done ?_
            refine W.seq ?_
            refine W.seq ?_
            refine W.region ?_
            refine WL.move rfl rfl ?_
            refine WL.len Try.underlying22 rfl rfl ?_
            refine WL.gtrD rfl rfl rfl ?_
            refine WL.done ?_
            obtain ⟨J50, hv, hk64⟩ := hv
            refine W.cutN (σ := List Int × Option Addr × Nat) (fun q w1 => match q with | (x46, A47, k48) => J50 x46 ∧ St TT w none w1 [.row 3 1 A47 x46.length k48 (is x46), .row 3 1 A33 x32.length k34 (is x32), .row 22 1 A25 1 1 [.slice Ap p.length kp], .ch lo21 hi22 (fun wz => GFX lo21 hi22 wz ad20 F19), .row 24 3 (some ⟨g11, 0, none⟩) 1 1 [.int .i64 Pf, .int .i64 Mf, .slice Af mf.length kf]]) (fun q => match q with | (x46, A47, k48) => [(6, .bool false), (8, .slice A33 x32.length k34), (9, .int .i64 r36), (10, .slice A47 x46.length k48)]) ?_ ?_
            · refine W.cond2 rfl (fun c51 => ?_) (fun c51 => ?_)
              · have hv := hv.1 (of_decide_eq_true c51)
                refine W.region ?_
                refine WL.move rfl rfl ?_
                obtain ⟨o52, hv⟩ := hv
                refine SL.make (J := n) hS Try.underlying22 Try.el3 rfl rfl o52 (made_is _) rfl ?_
                intro A53 w54 hS
                refine WL.move rfl rfl ?_
                obtain ⟨o56, hv⟩ := hv
                refine SL.append (cs := is (List.replicate n.toNat (0 : Int))) (cs' := is x42) 0 (((List.replicate n.toNat (0 : Int)) ++ x42).length) (is ((List.replicate n.toNat (0 : Int)) ++ x42)) hS rfl Try.underlying22 Try.el3 (hS.rd (i := 1) rfl) (is_one _) rfl rfl (apk o56).1 (apk o56).2 (is_ap (hS.rd (i := 0) rfl) (hS.rd (i := 1) rfl)) (is_append _ _) rfl ?_
                intro A57 k58 w59 hS
                refine WL.assign rfl rfl ?_
                refine WL.done ?_
                have hS := hS.pick [0, 2, 3, 4, 5] rfl
                change St _ _ _ _ [.row 3 1 A57 ((List.replicate n.toNat (0 : Int)) ++ x42).length k58 (is ((List.replicate n.toNat (0 : Int)) ++ x42)), .row 3 1 A33 x32.length k34 (is x32), .row 22 1 A25 1 1 [.slice Ap p.length kp], .ch lo21 hi22 (fun wz => GFX lo21 hi22 wz ad20 F19), .row 24 3 (some ⟨g11, 0, none⟩) 1 1 [.int .i64 Pf, .int .i64 Mf, .slice Af mf.length kf]] at hS
                exact ⟨((List.replicate n.toNat (0 : Int)) ++ x42, A57, k58), ⟨rfl, rfl, rfl, rfl, trivial⟩, rfl, hv, hS⟩
              · have hv := hv.2 (of_decide_eq_false c51)
                refine W.skip ?_
                change St _ _ _ _ [.row 3 1 A43 x42.length k44 (is x42), .row 3 1 A33 x32.length k34 (is x32), .row 22 1 A25 1 1 [.slice Ap p.length kp], .ch lo21 hi22 (fun wz => GFX lo21 hi22 wz ad20 F19), .row 24 3 (some ⟨g11, 0, none⟩) 1 1 [.int .i64 Pf, .int .i64 Mf, .slice Af mf.length kf]] at hS
                exact ⟨(x42, A43, k44), ⟨rfl, rfl, rfl, rfl, trivial⟩, rfl, hv, hS⟩
            · rintro ⟨x46, A47, k48⟩ w60 ⟨hv, hS⟩
              have hv := hk64 x46 hv
              refine W.seq ?_
              refine W.region ?_
              refine WL.move rfl rfl ?_
              refine WL.eqlD rfl rfl rfl ?_
              refine WL.move rfl rfl ?_
              by_cases g61 : r36 = (0 : Int)
              · have hv := hv.1 g61
                rw [decide_eq_true g61]
                refine WL.take rfl ?_
                refine WL.move rfl rfl ?_
                refine WL.take rfl ?_
                refine WL.move rfl rfl ?_
                refine WL.take rfl ?_
                refine SL.call hS (ok_lsame (hS.rd (i := 1) rfl) (hS.rd (i := 0) rfl) hv) Try.func23 rfl Try.nm23 rfl rfl ?_
                rintro _ _ w62 ⟨r63, rfl, rfl, hv⟩ hGw62 hS
                change St _ _ _ _ [.row 3 1 A47 x46.length k48 (is x46), .row 3 1 A33 x32.length k34 (is x32), .row 22 1 A25 1 1 [.slice Ap p.length kp], .ch lo21 hi22 (fun wz => GFX lo21 hi22 wz ad20 F19), .row 24 3 (some ⟨g11, 0, none⟩) 1 1 [.int .i64 Pf, .int .i64 Mf, .slice Af mf.length kf]] at hS
                refine WL.pick rfl rfl rfl ?_
                refine WL.assign rfl rfl ?_
                refine WL.done ?_
                refine W.ret ?_
                refine ⟨_, rfl, Fin.nil ?_⟩
                exact ⟨_, hS.ext, (hS.pick [] rfl).rows, News.of (hS.pick [] rfl).rows rfl, ⟨r63, rfl, rfl, hv⟩⟩
              · have hv := hv.2 g61
                rw [decide_eq_false g61]
                refine WL.pass rfl rfl rfl ?_
                refine WL.pass rfl rfl rfl ?_
                refine WL.pass rfl rfl rfl ?_
                refine WL.pick rfl rfl rfl ?_
                refine WL.assign rfl rfl ?_
                refine WL.done ?_
                refine W.ret ?_
                refine ⟨_, rfl, Fin.nil ?_⟩
                exact ⟨_, hS.ext, (hS.pick [] rfl).rows, News.of (hS.pick [] rfl).rows rfl, ⟨false, rfl, rfl, hv⟩⟩

end Go.Proofs.Ytmdigamgojfjdaa
set_option linter.unusedVariables false
set_option linter.unusedSimpArgs false
namespace Go.Proofs.Ytmdigamgojfjdaa
open Ks
/-! ### products, quotients, greatest common divisors -/
section
variable {k : Ks} {F : GFv} {P M : Int} {mf : List Int}
theorem w_pshift {p : List Int} {n : Int} {Q : List Int × Int → Prop} (K : GFk F k.p k.m k.v k.g) (hp : p.length ≤ 1000) (h0 : (n < 0 ∨ 4096 < n) → Q ([], 6)) (h1 : ∀ m : Nat, n = m → m ≤ 4096 → Q (k.L (mo 1 m * k.pol p), 0)) : V_pshift F p n Q := by
  refine ⟨fun h => h0 (.inl h), fun hn => ⟨fun h => h0 (.inr h), fun hn2 => ?_⟩⟩
  obtain ⟨m, rfl⟩ := Int.eq_ofNat_of_zero_le (show 0 ≤ n by omega)
  have hc := L_len (pol_su (k := k) p)
  refine ⟨⟨by omega, by omega, by omega⟩, _, w_canon K (by omega) rfl, ?_⟩
  rw [Int.toNat_natCast]
  refine ⟨by omega, ?_⟩
  have hlen : (List.replicate m (0 : Int) ++ k.L (k.pol p)).length = m + (k.L (k.pol p)).length := by rw [List.length_append, List.length_replicate]
  have hval : ∀ i, vo (List.replicate m (0 : Int) ++ k.L (k.pol p)) i = k.co ((mo (1 : k.E) m * k.pol p) i) := fun i => by
    rw [vo_app, List.length_replicate, mo_mul]
    by_cases hi : i < m
    · rw [if_pos hi, vo_rep, if_neg (by omega)]; rfl
    · rw [if_neg hi, if_pos (by omega), L_at (pol_fs p), Cr.one_mul]
  obtain ⟨he, hpol⟩ := fill_pol (k := k) (f := mo 1 m * k.pol p) hlen (fun i hi => hval i) (((mo_su 1 m).mul (L_su (pol_fs p))).mono (by omega))
  refine w_trim K (by omega) he fun j h2 h3 h4 => ⟨⟨h2, h3⟩, ?_⟩
  rw [h4, hpol]; exact h1 m rfl (by omega)
end
end Go.Proofs.Ytmdigamgojfjdaa
set_option linter.unusedVariables false
set_option linter.unusedSimpArgs false
namespace Go.Proofs.Ytmdigamgojfjdaa
open Ks
/-! ### the laws -/
section
variable {k : Ks} {F : GFv} {P M : Int} {mf : List Int}
theorem shift_L {f : Pl k.E} (hf : Fs f) (h0 : f ≠ 0) (n : Nat) : List.replicate n (0 : Int) ++ k.L f = k.L (mo 1 n * f) := by
  obtain ⟨d, hd⟩ : ∃ d, Dg f d := ⟨_, (L_rp (k := k) hf).dg (Nat.pos_of_ne_zero fun e => h0 ((L_len0 hf).1 e))⟩
  have hl : (List.replicate n (0 : Int) ++ k.L f).length = n + d + 1 := by rw [List.length_append, List.length_replicate, L_dg hd]; omega
  have hm : Dg (mo (1 : k.E) n * f) (n + d) := by
    have h1 : Dg (mo (1 : k.E) n) n := ⟨by rw [mo, if_pos rfl]; exact Fd.ne, mo_su _ _⟩
    exact h1.mul hd
  obtain ⟨he, hpol⟩ := fill_pol (k := k) (f := mo 1 n * f) hl (fun i hi => by
    rw [vo_app, List.length_replicate, mo_mul]
    by_cases hi : i < n
    · rw [if_pos hi, vo_rep, if_neg (by omega)]; rfl
    · rw [if_neg hi, if_pos (by omega), L_at hf, Cr.one_mul]) hm.2
  exact L_eq ⟨he, top_ne (k := k) hl (by rw [hpol]; exact hm.1), hpol⟩
theorem law_PolyShifts (p : List Int) (n : Int) : V_PolyShifts P M mf p n (fun b => b = true) := by
  refine w_alive ⟨fun h => absurd h (by decide), fun _ => w_made (fun _ => rfl) fun F k K hF => w_short1 rfl fun hp => ?_⟩
  refine w_pshift K (by omega) (fun hn => ?_) fun m e hm => ?_
  · refine ⟨fun _ => ⟨fun _ => rfl, fun h => absurd rfl h⟩, fun h1 => ⟨fun _ => ⟨fun _ => rfl, fun h => absurd rfl h⟩, fun h2 => ?_⟩⟩
    omega
  · subst e
    refine ⟨fun h => by omega, fun _ => ⟨fun h => by omega, fun _ => w_rcanon hF (by omega) ?_⟩⟩
    have hl := L_len (pol_su (k := k) p)
    rw [Int.toNat_natCast]
    refine ⟨fun x => k.L (mo 1 m * k.pol p) = x, ⟨fun h => ⟨⟨by omega, by omega, by omega⟩, by omega, ?_⟩, fun h => ?_⟩, ?_⟩
    · exact (shift_L (pol_fs p) (fun e => by rw [(L_len0 (pol_fs p)).2 e] at h; omega) m).symm
    · have h0 := (L_len0 (pol_fs (k := k) p)).1 (by omega)
      show k.L (mo 1 m * k.pol p) = k.L (k.pol p)
      rw [h0, Cr.mul_zero]
    · rintro _ rfl
      exact t0 (w_same (Nat.le_trans (L_len ((mo_su 1 m).mul (pol_su p))) (by omega)) rfl rfl)
end
end Go.Proofs.Ytmdigamgojfjdaa
