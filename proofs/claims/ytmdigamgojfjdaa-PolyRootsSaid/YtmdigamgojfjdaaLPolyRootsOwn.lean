/- What only this law leans on. -/
import Derived.Test.YtmdigamgojfjdaaPolyAddsG12
set_option linter.unusedVariables false
namespace Go.Proofs.Ytmdigamgojfjdaa
open Go.RowKit
theorem Try.nm59 : (Try.f59.name == "runtime.NumGoroutine") = false := by kernel_rfl
theorem Try.nm60 : (Try.f60.name == "runtime.NumGoroutine") = false := by kernel_rfl
end Go.Proofs.Ytmdigamgojfjdaa
set_option linter.unusedVariables false
set_option linter.unusedSimpArgs false
set_option linter.unusedSectionVars false
namespace Go.Proofs.Ytmdigamgojfjdaa
section
variable {α : Type} [Cr α]
end
section
variable {α : Type} [Cr α] [Fd α]
theorem root_dv {f : Pl α} {a : α} (hf : Fs f) (h : vl_ f a = 0) : Dv (lin a) f := by
  obtain ⟨n, hn⟩ := hf
  obtain ⟨b, r, h1, h2, h3⟩ := div_ex (lin_dg a) hn
  have h4 := lin_rem ⟨_, h1⟩ h3 h2
  rw [h] at h4
  refine ⟨b, ⟨_, h1⟩, ?_⟩
  rw [h2, h4, Cr.mul_comm]
  show _ + mo 0 0 = _
  rw [mo_zero, Cr.add_zero]
theorem lpf_dv {f : Pl α} (hf : Fs f) (r : Pl α) : ∀ k, (∀ i, i < k → vl_ f (r i) = 0) → (∀ i j, i < j → j < k → r i ≠ r j) → Dv (lpf r k) f
  | 0, _, _ => ⟨f, hf, (Cr.one_mul f).symm⟩
  | k + 1, h, hd => by
    obtain ⟨g, hg, e⟩ := lpf_dv hf r k (fun i hi => h i (by omega)) (fun i j h1 h2 => hd i j h1 (by omega))
    have h1 := h k (by omega)
    rw [e, vl_mul (lpf_fs r k) hg] at h1
    rcases Fd.nzd h1 with h2 | h2
    · obtain ⟨i, hi, e2⟩ := (vl_lpf r (r k) k).1 h2
      exact absurd e2 (hd i k hi (by omega))
    · obtain ⟨u, hu, e3⟩ := root_dv hg h2
      exact ⟨u, hu, by rw [e, e3, lpf, Cr.mul_assoc]⟩
end
end Go.Proofs.Ytmdigamgojfjdaa
set_option linter.unusedSimpArgs false
set_option linter.unusedVariables false
namespace Go.Proofs.Ytmdigamgojfjdaa
open Go.RowKit
def V_roots (Fg : GFv) (p : List Int) (Q : List Int × Int → Prop) : Prop :=
  V_canon Fg p (fun x16 => ((((x16.length : Nat) : Int) = (0 : Int)) → (Q (([] : List Int), (7 : Int)))) ∧ (¬ (((x16.length : Nat) : Int) = (0 : Int)) → (V_elements Fg (fun _ => I64 Fg.q ∧ ∃ (I39 : Nat → List Int → Prop), I39 0 ([] : List Int) ∧ (∀ i26 : Nat, i26 < Fg.q.toNat → ∀ (x35 : List Int), I39 i26 x35 → (V_eval Fg x16 (i26 : Int) (fun r42 => ((r42 = (0 : Int)) → ((((x35.length : Nat) + (1 : Nat) : Int) * 8 ≤ 140737488355328) ∧ (I39 (i26 + 1) (x35 ++ ([(i26 : Int)] : List Int))))) ∧ (¬ (r42 = (0 : Int)) → (I39 (i26 + 1) x35))))) ∧ (∀ (x35 : List Int), I39 Fg.q.toNat x35 → (Q (x35, (0 : Int))))))))
theorem ok_roots {w : World} {Q : List Int × Int → Prop} {Fg : GFv} {p : List Int} {ag : Addr} {Bg : Nat} (hgg : GFR Bg w ag Fg) {Bp : Nat} {Ap : Option Addr} {np kp : Nat} (hp : Rd Bp w 1 Ap np kp (is p)) (hv : V_roots Fg p Q) :
    Calls Try.prog 59 #[.pointer (some ag), .slice Ap np kp] w fun e w' => ∃ v Qr, e = .returned v ∧ w.grownBy w' none ∧ Rows w.heap.size none w' Qr ∧ News w.heap.size Qr ∧ ∃ (r0 : List Int) (r1 : Int) (Ar0 : Option Addr) (cr0 : Nat), v = .tuple #[.slice Ar0 r0.length cr0, .int .i64 r1] ∧ Qr = [.row 3 1 Ar0 r0.length cr0 (is r0)] ∧ Q (r0, r1) := by
  have hgg_ := hgg
  obtain ⟨Ag_mod, kg_mod, Ag_exp, kg_exp, Ag_log, kg_log, Ag_above, kg_above, hg_c, hg_mod, hg_exp, hg_log, hg_above⟩ := hgg_
  have hnp := hp.ilen
  subst hnp
  refine calls_swap ?_
  refine calls_of_W (vs := [.pointer (some ag), .slice Ap p.length kp]) [4, 5] Try.func59 rfl rfl rfl rfl ?_
  have hS := St.start w
  unfold V_roots at hv
  refine W.seq ?_
  refine W.region ?_
  refine SL.box (z := 1) (cs := [.pointer (some ag)]) hS rfl rfl rfl rfl ?_
  intro g11 w12 hS
  refine SL.box (z := 1) (cs := [.slice Ap p.length kp]) hS rfl rfl rfl rfl ?_
  intro g13 w14 hS
  refine WL.assign rfl rfl ?_
  refine WL.assign rfl rfl ?_
  refine WL.done ?_
  refine W.seq ?_
  refine W.region ?_
  refine WL.load Try.underlying26 rfl rfl (Own.vcells (hS.own (i := 1) rfl) 0 _ rfl) rfl ?_
  refine WL.load Try.underlying22 rfl rfl (Own.vcells (hS.own (i := 0) rfl) 0 _ rfl) rfl ?_
  refine SL.call hS (ok_canon (GFR.ext (GFR.norm hgg) hS.ext) (hS.ro hp) hv) Try.func22 rfl Try.nm22 rfl rfl ?_
  rintro _ _ w15 ⟨x16, A17, k18, rfl, rfl, hv⟩ hGw15 hS
  change St _ _ _ _ [.row 3 1 A17 x16.length k18 (is x16), .row 22 1 (some ⟨g13, 0, none⟩) 1 1 [.slice Ap p.length kp], .row 26 1 (some ⟨g11, 0, none⟩) 1 1 [.pointer (some ag)]] at hS
  refine SL.store (cs' := [.slice A17 x16.length k18]) 1 0 hS rfl Try.el22 rfl rfl rfl (of_ble rfl) rfl ?_
  intro w20 hS
  refine WL.done ?_
  refine W.seq ?_
  refine W.seq ?_
  refine W.region ?_
  refine WL.load Try.underlying22 rfl rfl (Own.vcells (hS.own (i := 1) rfl) 0 _ rfl) rfl ?_
  refine WL.len Try.underlying22 rfl rfl ?_
  refine WL.eqlD rfl rfl rfl ?_
  refine WL.done ?_
  refine W.cond2 rfl (fun c21 => ?_) (fun c21 => ?_)
  · have hv := hv.1 (of_decide_eq_true c21)
    refine W.seq ?_
    refine W.region ?_
    refine WL.assign rfl rfl ?_
    refine WL.assign rfl rfl ?_
    refine WL.done ?_
    refine W.ret ?_
    have hS := hS.nil (e := 3) (z := 1)
    refine ⟨_, rfl, Fin.nil ?_⟩
    exact ⟨_, hS.ext, (hS.pick [0] rfl).rows, News.of (hS.pick [0] rfl).rows rfl, ⟨([] : List Int), (7 : Int), none, 0, rfl, rfl, hv⟩⟩
  · have hv := hv.2 (of_decide_eq_false c21)
    refine W.skip ?_
    refine W.seq ?_
    refine W.region ?_
    refine SL.alloc (cs := [.slice none 0 0]) hS Try.el22 rfl rfl ?_
    intro g22 w23 hS
    refine WL.done ?_
    refine W.seq ?_
    refine W.seq ?_
    refine W.region ?_
    refine WL.load Try.underlying26 rfl rfl (Own.vcells (hS.own (i := 3) rfl) 0 _ rfl) rfl ?_
    refine SL.call hS (ok_elements (GFR.ext (GFR.norm hgg) hS.ext) hv) Try.func87 rfl Try.nm87 rfl rfl ?_
    rintro _ _ w24 ⟨g25, rfl, rfl, hv⟩ hGw24 hS
    change St _ _ _ _ [.row 26 1 (some ⟨g25, 0, none⟩) 1 1 [.pointer (some ag)], .row 22 1 (some ⟨g22, 0, none⟩) 1 1 [.slice none 0 0], .row 3 1 A17 x16.length k18 (is x16), .row 22 1 (some ⟨g13, 0, none⟩) 1 1 [.slice A17 x16.length k18], .row 26 1 (some ⟨g11, 0, none⟩) 1 1 [.pointer (some ag)]] at hS
    refine WL.done ?_
    refine W.block ?_
    obtain ⟨o56, hv⟩ := hv
    obtain ⟨I39, hv, hk54, hd55⟩ := hv
    have hS := hS.nil (e := 3) (z := 1)
    have hm0 : 0 = ([] : List Int).length := (hS.rd (i := 0) rfl).ilen.symm
    have hS := hS.relen (i := 0) rfl hm0
    change St _ _ _ _ [.row 3 1 none ([] : List Int).length 0 (is ([] : List Int)), .row 26 1 (some ⟨g25, 0, none⟩) 1 1 [.pointer (some ag)], .row 22 1 (some ⟨g22, 0, none⟩) 1 1 [.slice none ([] : List Int).length 0], .row 3 1 A17 x16.length k18 (is x16), .row 22 1 (some ⟨g13, 0, none⟩) 1 1 [.slice A17 x16.length k18], .row 26 1 (some ⟨g11, 0, none⟩) 1 1 [.pointer (some ag)]] at hS
    refine SR.range (σ := List Int × Option Addr × Nat) (fun i q => match q with | (x35, A36, k37) => I39 i x35) (fun q => match q with | (x35, A36, k37) => [.row 3 1 A36 x35.length k37 (is x35), .row 26 1 (some ⟨g25, 0, none⟩) 1 1 [.pointer (some ag)], .row 22 1 (some ⟨g22, 0, none⟩) 1 1 [.slice A36 x35.length k37], .row 3 1 A17 x16.length k18 (is x16), .row 22 1 (some ⟨g13, 0, none⟩) 1 1 [.slice A17 x16.length k18], .row 26 1 (some ⟨g11, 0, none⟩) 1 1 [.pointer (some ag)]]) (fun _ _ => False) (fun vs => [(2, .pointer (some ⟨g11, 0, none⟩)), (3, .pointer (some ⟨g13, 0, none⟩)), (4, .slice none 0 0), (5, .int .i64 (0 : Int)), (6, .pointer (some ⟨g22, 0, none⟩)), (7, vs.getD 0 undef)]) (([] : List Int), none, 0) hS hv (fun q => by obtain ⟨x35, A36, k37⟩ := q; exact trivial) rfl Try.func104 rfl Try.nm104 (elements_seq o56 (Own.vcells (hS.own (i := 1) rfl) 0 _ rfl) (Rd.at_ (hS.ro hg_c) (j := 3) rfl)) (Below.refl _ _) (fun _ _ _ h => by rw [h]; rfl) (fun _ _ _ _ _ h _ _ => h) (by decide) (fun _ _ _ _ _ => trivial) ?_ ?_ ?_ ?_
    · intro lq vsq W1q hlq
      match vsq, hlq with
      | [a0], _ =>
        refine W.region ?_
        refine WL.assign rfl rfl ?_
        refine WL.done ?_
        exact ⟨rfl, rfl, ⟨rfl, rfl, rfl, rfl, rfl, rfl, trivial⟩⟩
    · rintro lq i26 _ ⟨x35, A36, k37⟩ w40 hi rfl hI hS
      have hv := hk54 i26 hi x35 hI
      refine W.block ?_
      refine W.seq ?_
      refine W.region ?_
      refine WL.load Try.underlying26 rfl rfl (Own.vcells (hS.own (i := 5) rfl) 0 _ rfl) rfl ?_
      refine WL.load Try.underlying22 rfl rfl (Own.vcells (hS.own (i := 4) rfl) 0 _ rfl) rfl ?_
      refine WL.move rfl rfl ?_
      refine SL.call hS (ok_eval (GFR.ext (GFR.norm hgg) hS.ext) (hS.rd (i := 3) rfl) hv) Try.func44 rfl Try.nm44 rfl rfl ?_
      rintro _ _ w41 ⟨r42, rfl, rfl, hv⟩ hGw41 hS
      change St _ _ _ _ [.row 3 1 A36 x35.length k37 (is x35), .row 26 1 (some ⟨g25, 0, none⟩) 1 1 [.pointer (some ag)], .row 22 1 (some ⟨g22, 0, none⟩) 1 1 [.slice A36 x35.length k37], .row 3 1 A17 x16.length k18 (is x16), .row 22 1 (some ⟨g13, 0, none⟩) 1 1 [.slice A17 x16.length k18], .row 26 1 (some ⟨g11, 0, none⟩) 1 1 [.pointer (some ag)]] at hS
      refine WL.eqlD rfl rfl rfl ?_
      refine WL.done ?_
      refine W.cond2 rfl (fun c43 => ?_) (fun c43 => ?_)
      · have hv := hv.1 (of_decide_eq_true c43)
        refine W.region ?_
        refine WL.load Try.underlying22 rfl rfl (Own.vcells (hS.own (i := 2) rfl) 0 _ rfl) rfl ?_
        refine WL.move rfl rfl ?_
        refine SL.lit1 (vs := is ([(i26 : Int)] : List Int)) hS Try.underlying22 Try.el3 rfl rfl rfl rfl (is_one _) rfl ?_
        intro A44 w45 hS
        obtain ⟨o47, hv⟩ := hv
        refine SL.append (cs := is x35) (cs' := is ([(i26 : Int)] : List Int)) 1 ((x35 ++ ([(i26 : Int)] : List Int)).length) (is (x35 ++ ([(i26 : Int)] : List Int))) hS rfl Try.underlying22 Try.el3 (hS.rd (i := 0) rfl) (is_one _) rfl rfl (apk o47).1 (apk o47).2 (is_ap (hS.rd (i := 1) rfl) (hS.rd (i := 0) rfl)) (is_append _ _) rfl ?_
        intro A48 k49 w50 hS
        refine SL.store (cs' := [.slice A48 ((x35 ++ ([(i26 : Int)] : List Int)).length) k49]) 3 0 hS rfl Try.el22 rfl rfl rfl (of_ble rfl) rfl ?_
        intro w51 hS
        refine WL.done ?_
        have hS := hS.pick [1, 2, 3, 4, 5, 6] rfl
        change St _ _ _ _ [.row 3 1 A48 (x35 ++ ([(i26 : Int)] : List Int)).length k49 (is (x35 ++ ([(i26 : Int)] : List Int))), .row 26 1 (some ⟨g25, 0, none⟩) 1 1 [.pointer (some ag)], .row 22 1 (some ⟨g22, 0, none⟩) 1 1 [.slice A48 (x35 ++ ([(i26 : Int)] : List Int)).length k49], .row 3 1 A17 x16.length k18 (is x16), .row 22 1 (some ⟨g13, 0, none⟩) 1 1 [.slice A17 x16.length k18], .row 26 1 (some ⟨g11, 0, none⟩) 1 1 [.pointer (some ag)]] at hS
        exact ⟨(x35 ++ ([(i26 : Int)] : List Int), A48, k49), hv, hS⟩
      · have hv := hv.2 (of_decide_eq_false c43)
        refine W.skip ?_
        change St _ _ _ _ [.row 3 1 A36 x35.length k37 (is x35), .row 26 1 (some ⟨g25, 0, none⟩) 1 1 [.pointer (some ag)], .row 22 1 (some ⟨g22, 0, none⟩) 1 1 [.slice A36 x35.length k37], .row 3 1 A17 x16.length k18 (is x16), .row 22 1 (some ⟨g13, 0, none⟩) 1 1 [.slice A17 x16.length k18], .row 26 1 (some ⟨g11, 0, none⟩) 1 1 [.pointer (some ag)]] at hS
        exact ⟨(x35, A36, k37), hv, hS⟩
    · rintro D52 ⟨x35, A36, k37⟩ w53 hv hD hS
      have hv := hd55 x35 hv
      refine W.seq ?_
      refine W.region ?_
      refine WL.load Try.underlying22 rfl rfl (Own.vcells (hS.own (i := 3) rfl) 0 _ rfl) rfl ?_
      refine WL.assign rfl rfl ?_
      refine WL.assign rfl rfl ?_
      refine WL.done ?_
      refine W.ret ?_
      have hS := hS.pick [0, 1] rfl
      obtain ⟨hDD52, hS⟩ := hS.taken trivial
      refine ⟨_, rfl, Fin.cons hDD52 (Fin.nil ?_)⟩
      exact ⟨_, hS.ext, (hS.pick [0] rfl).rows, News.of (hS.pick [0] rfl).rows rfl, ⟨x35, (0 : Int), A36, k37, rfl, rfl, hv⟩⟩
    · rintro _ e _ _ _ hv; exact hv.elim
end Go.Proofs.Ytmdigamgojfjdaa
set_option linter.unusedSimpArgs false
set_option linter.unusedVariables false
namespace Go.Proofs.Ytmdigamgojfjdaa
open Go.RowKit
def V_rroots (Pf : Int) (Mf : Int) (mf : List Int) (p : List Int) (Q : List Int → Prop) : Prop :=
  ∃ (I28 : List Int → Int → Prop) (μ29 : List Int → Int → Nat), I28 ([] : List Int) (0 : Int) ∧ ∀ (x23 : List Int) (z27 : Int), (I28 x23 z27 → (V_rOrder Pf Mf mf (fun r32 => ((z27 < r32) → (∃ J38 : List Int → Bool → Prop, (V_reval Pf Mf mf p z27 (fun r40 => ((r40 = (0 : Int)) → ((((x23.length : Nat) + (1 : Nat) : Int) * 8 ≤ 140737488355328) ∧ (J38 (x23 ++ ([z27] : List Int)) (decide (r40 = (0 : Int)))))) ∧ (¬ (r40 = (0 : Int)) → (J38 x23 (decide (r40 = (0 : Int))))))) ∧ ∀ (x34 : List Int) (b37 : Bool), (J38 x34 b37 → ((I64 (z27 + (1 : Int))) ∧ (I28 x34 (z27 + (1 : Int)) ∧ μ29 x34 (z27 + (1 : Int)) < μ29 x23 z27))))) ∧ (¬ (z27 < r32) → Q x23))))
theorem ok_rroots {w : World} {Q : List Int → Prop} {Pf : Int} {Mf : Int} {mf : List Int} {p : List Int} {Bf : Nat} {Af : Option Addr} {nf kf : Nat} (hf : Rd Bf w 1 Af nf kf (is mf)) {Bp : Nat} {Ap : Option Addr} {np kp : Nat} (hp : Rd Bp w 1 Ap np kp (is p)) (hv : V_rroots Pf Mf mf p Q) :
    Calls Try.prog 60 #[.agg #[.int .i64 Pf, .int .i64 Mf, .slice Af nf kf], .slice Ap np kp] w fun e w' => ∃ v Qr, e = .returned v ∧ w.grownBy w' none ∧ Rows w.heap.size none w' Qr ∧ News w.heap.size Qr ∧ ∃ (r0 : List Int) (Ar0 : Option Addr) (cr0 : Nat), v = .slice Ar0 r0.length cr0 ∧ Qr = [.row 3 1 Ar0 r0.length cr0 (is r0)] ∧ Q r0 := by
  have hnf := hf.ilen
  subst hnf
  have hnp := hp.ilen
  subst hnp
  refine calls_swap ?_
  refine calls_of_W (vs := [.agg #[.int .i64 Pf, .int .i64 Mf, .slice Af mf.length kf], .slice Ap p.length kp]) [4] Try.func60 rfl rfl rfl rfl ?_
  have hS := St.start w
  unfold V_rroots at hv
  refine W.seq ?_
  refine W.region ?_
  refine SL.box (z := 3) (cs := [.int .i64 Pf, .int .i64 Mf, .slice Af mf.length kf]) hS rfl rfl rfl rfl ?_
  intro g11 w12 hS
  refine WL.assign rfl rfl ?_
  refine WL.done ?_
  refine W.seq ?_
  refine W.region ?_
  refine WL.assign rfl rfl ?_
  refine WL.done ?_
  refine W.seq ?_
  refine W.seq ?_
  refine W.region ?_
  refine WL.assign rfl rfl ?_
  refine WL.done ?_
  refine W.block ?_
  obtain ⟨I28, μ29, hv, hk52⟩ := hv
  have hS := hS.nil (e := 3) (z := 1)
  have hm0 : 0 = ([] : List Int).length := (hS.rd (i := 0) rfl).ilen.symm
  have hS := hS.relen (i := 0) rfl hm0
  change St _ _ _ _ [.row 3 1 none ([] : List Int).length 0 (is ([] : List Int)), .row 24 3 (some ⟨g11, 0, none⟩) 1 1 [.int .i64 Pf, .int .i64 Mf, .slice Af mf.length kf]] at hS
  refine W.loop (σ := List Int × Int × Option Addr × Nat) (fun q w1 => match q with | (x23, z27, A24, k25) => I28 x23 z27 ∧ St TT w none w1 [.row 3 1 A24 x23.length k25 (is x23), .row 24 3 (some ⟨g11, 0, none⟩) 1 1 [.int .i64 Pf, .int .i64 Mf, .slice Af mf.length kf]]) (fun q => match q with | (x23, z27, A24, k25) => [(1, .slice Ap p.length kp), (2, .pointer (some ⟨g11, 0, none⟩)), (4, .slice none 0 0), (5, .slice A24 x23.length k25), (6, .int .i64 z27)]) (fun q => match q with | (x23, z27, A24, k25) => μ29 x23 z27) (([] : List Int), (0 : Int), none, 0) ⟨hv, hS⟩ ⟨rfl, rfl, rfl, (sm (by first | rfl | assumption | omega)), rfl, trivial⟩ ?_
  rintro ⟨x23, z27, A24, k25⟩ w30 ⟨hv, hS⟩
  have hv := hk52 x23 z27 hv
  refine W.seq ?_
  refine W.seq ?_
  refine W.region ?_
  refine WL.move rfl rfl ?_
  refine WL.loadV (cs := [.int .i64 Pf, .int .i64 Mf, .slice Af mf.length kf]) Try.el24 Try.agg24 rfl rfl (Own.vcells (hS.own (i := 1) rfl)) rfl ?_
  refine SL.call hS (ok_rOrder (hS.ro hf) hv) Try.func88 rfl Try.nm88 rfl rfl ?_
  rintro _ _ w31 ⟨r32, rfl, rfl, hv⟩ hGw31 hS
  change St _ _ _ _ [.row 3 1 A24 x23.length k25 (is x23), .row 24 3 (some ⟨g11, 0, none⟩) 1 1 [.int .i64 Pf, .int .i64 Mf, .slice Af mf.length kf]] at hS
  refine WL.lssD rfl rfl rfl ?_
  refine WL.done ?_
  refine W.cond2 rfl (fun c33 => ?_) (fun c33 => ?_)
  · have hv := hv.1 (of_decide_eq_true c33)
    refine W.skip ?_
    refine W.seq ?_
    obtain ⟨J38, hv, hk51⟩ := hv
    refine W.cutN (σ := List Int × Bool × Option Addr × Nat) (fun q w1 => match q with | (x34, b37, A35, k36) => J38 x34 b37 ∧ St TT w none w1 [.row 3 1 A35 x34.length k36 (is x34), .row 24 3 (some ⟨g11, 0, none⟩) 1 1 [.int .i64 Pf, .int .i64 Mf, .slice Af mf.length kf]]) (fun q => match q with | (x34, b37, A35, k36) => [(1, .slice Ap p.length kp), (2, .pointer (some ⟨g11, 0, none⟩)), (4, .slice none 0 0), (5, .slice A35 x34.length k36), (6, .int .i64 z27), (10, .bool (decide (z27 < r32))), (17, .bool b37)]) ?_ ?_
    · refine W.block ?_
      refine W.seq ?_
      refine W.region ?_
      refine WL.loadV (cs := [.int .i64 Pf, .int .i64 Mf, .slice Af mf.length kf]) Try.el24 Try.agg24 rfl rfl (Own.vcells (hS.own (i := 1) rfl)) rfl ?_
      refine WL.move rfl rfl ?_
      refine WL.move rfl rfl ?_
      refine SL.call hS (ok_reval (hS.ro hf) (hS.ro hp) hv) Try.func45 rfl Try.nm45 rfl rfl ?_
      rintro _ _ w39 ⟨r40, rfl, rfl, hv⟩ hGw39 hS
      change St _ _ _ _ [.row 3 1 A24 x23.length k25 (is x23), .row 24 3 (some ⟨g11, 0, none⟩) 1 1 [.int .i64 Pf, .int .i64 Mf, .slice Af mf.length kf]] at hS
      refine WL.eqlD rfl rfl rfl ?_
      refine WL.done ?_
      refine W.cond2 rfl (fun c41 => ?_) (fun c41 => ?_)
      · have hv := hv.1 (of_decide_eq_true c41)
        refine W.region ?_
        refine WL.move rfl rfl ?_
        refine WL.move rfl rfl ?_
        refine SL.lit1 (vs := is ([z27] : List Int)) hS Try.underlying22 Try.el3 rfl rfl rfl rfl (is_one _) rfl ?_
        intro A42 w43 hS
        obtain ⟨o45, hv⟩ := hv
        refine SL.append (cs := is x23) (cs' := is ([z27] : List Int)) 1 ((x23 ++ ([z27] : List Int)).length) (is (x23 ++ ([z27] : List Int))) hS rfl Try.underlying22 Try.el3 (hS.rd (i := 0) rfl) (is_one _) rfl rfl (apk o45).1 (apk o45).2 (is_ap (hS.rd (i := 1) rfl) (hS.rd (i := 0) rfl)) (is_append _ _) rfl ?_
        intro A46 k47 w48 hS
        refine WL.assign rfl rfl ?_
        refine WL.done ?_
        have hS := hS.pick [1, 2] rfl
        change St _ _ _ _ [.row 3 1 A46 (x23 ++ ([z27] : List Int)).length k47 (is (x23 ++ ([z27] : List Int))), .row 24 3 (some ⟨g11, 0, none⟩) 1 1 [.int .i64 Pf, .int .i64 Mf, .slice Af mf.length kf]] at hS
        exact ⟨(x23 ++ ([z27] : List Int), (decide (r40 = (0 : Int))), A46, k47), ⟨rfl, rfl, rfl, rfl, rfl, rfl, rfl, trivial⟩, rfl, hv, hS⟩
      · have hv := hv.2 (of_decide_eq_false c41)
        refine W.skip ?_
        change St _ _ _ _ [.row 3 1 A24 x23.length k25 (is x23), .row 24 3 (some ⟨g11, 0, none⟩) 1 1 [.int .i64 Pf, .int .i64 Mf, .slice Af mf.length kf]] at hS
        exact ⟨(x23, (decide (r40 = (0 : Int))), A24, k25), ⟨rfl, rfl, rfl, rfl, rfl, rfl, rfl, trivial⟩, rfl, hv, hS⟩
    · rintro ⟨x34, b37, A35, k36⟩ w49 ⟨hv, hS⟩
      have hv := hk51 x34 b37 hv
      refine W.region ?_
      refine WL.move rfl rfl ?_
      obtain ⟨o50, hv⟩ := hv
      refine WL.add (r := (z27 + (1 : Int))) rfl rfl (wr o50) rfl ?_
      refine WL.assign rfl rfl ?_
      refine WL.done ?_
      change St _ _ _ _ [.row 3 1 A35 x34.length k36 (is x34), .row 24 3 (some ⟨g11, 0, none⟩) 1 1 [.int .i64 Pf, .int .i64 Mf, .slice Af mf.length kf]] at hS
      exact ⟨(x34, (z27 + (1 : Int)), A35, k36), ⟨rfl, rfl, rfl, rfl, rfl, trivial⟩, hv.2, rfl, hv.1, hS⟩
  · have hv := hv.2 (of_decide_eq_false c33)
    refine W.exit ?_
    refine W.seq ?_
    refine W.region ?_
    refine WL.move rfl rfl ?_
    refine WL.assign rfl rfl ?_
    refine WL.done ?_
    refine W.ret ?_
    refine ⟨_, rfl, Fin.nil ?_⟩
    exact ⟨_, hS.ext, (hS.pick [0] rfl).rows, News.of (hS.pick [0] rfl).rows rfl, ⟨x23, A24, k25, rfl, rfl, hv⟩⟩
end Go.Proofs.Ytmdigamgojfjdaa
set_option linter.unusedSimpArgs false
set_option linter.unusedVariables false
namespace Go.Proofs.Ytmdigamgojfjdaa
open Go.RowKit
def V_PolyRoots (Pf : Int) (Mf : Int) (mf : List Int) (p : List Int) (Q : Bool → Prop) : Prop :=
  V_alive  (fun r14 => (((!r14) = true) → Q false) ∧ ((!r14) = false → (V_made Pf Mf mf (fun q => match q with | none => Q true | some F19 => V_short ([p] : List (List Int)) (fun r29 => (((!r29) = true) → Q true) ∧ ((!r29) = false → (V_roots F19 p (fun q => match q with | (x32, r36) => V_rdeg Pf Mf mf p (fun r38 => ((r38 < (0 : Int)) → (((r36 = (7 : Int)) → (Q (decide (((x32.length : Nat) : Int) = (0 : Int))))) ∧ (¬ (r36 = (7 : Int)) → Q false))) ∧ (¬ (r38 < (0 : Int)) → (((r36 ≠ (0 : Int)) → Q false) ∧ (¬ (r36 ≠ (0 : Int)) → (((r38 < ((x32.length : Nat) : Int)) → Q false) ∧ (¬ (r38 < ((x32.length : Nat) : Int)) → (V_rroots Pf Mf mf p (fun x44 => V_lsame x32 x44 (fun r49 => (((!r49) = true) → Q false) ∧ ((!r49) = false → (V_fromRoots F19 x32 (fun x52 => V_rdeg Pf Mf mf x52 (fun r57 => ((r57 = ((x32.length : Nat) : Int)) → (V_rrem Pf Mf mf p x52 (fun x60 => Q (decide (((x60.length : Nat) : Int) = (0 : Int)))))) ∧ (¬ (r57 = ((x32.length : Nat) : Int)) → Q false))))))))))))))))))))))
theorem ok_PolyRoots {w : World} {Q : Bool → Prop} {Pf : Int} {Mf : Int} {mf : List Int} {p : List Int} {Bf : Nat} {Af : Option Addr} {nf kf : Nat} (hf : Rd Bf w 1 Af nf kf (is mf)) {Bp : Nat} {Ap : Option Addr} {np kp : Nat} (hp : Rd Bp w 1 Ap np kp (is p)) (hv : V_PolyRoots Pf Mf mf p Q) :
    Calls Try.prog 18 #[.agg #[.int .i64 Pf, .int .i64 Mf, .slice Af nf kf], .slice Ap np kp] w fun e w' => ∃ v Qr, e = .returned v ∧ w.grownBy w' none ∧ Rows w.heap.size none w' Qr ∧ News w.heap.size Qr ∧ ∃ (r0 : Bool), v = .bool r0 ∧ Qr = [] ∧ Q r0 := by
  have hnf := hf.ilen
  subst hnf
  have hnp := hp.ilen
  subst hnp
  refine calls_swap ?_
  refine calls_of_W (vs := [.agg #[.int .i64 Pf, .int .i64 Mf, .slice Af mf.length kf], .slice Ap p.length kp]) [4] Try.func18 rfl rfl rfl rfl ?_
  have hS := St.start w
  unfold V_PolyRoots at hv
  refine W.seq ?_
  refine W.region ?_
  refine SL.box (z := 3) (cs := [.int .i64 Pf, .int .i64 Mf, .slice Af mf.length kf]) hS rfl rfl rfl rfl ?_
  intro g11 w12 hS
  refine WL.assign rfl rfl ?_
  refine WL.done ?_
  refine W.seq ?_
  refine W.seq ?_
  refine W.region ?_
  refine SL.call hS (ok_alive  hv) Try.func20 rfl Try.nm20 rfl rfl ?_
  rintro _ _ w13 ⟨r14, rfl, rfl, hv⟩ hGw13 hS
  change St _ _ _ _ [.row 24 3 (some ⟨g11, 0, none⟩) 1 1 [.int .i64 Pf, .int .i64 Mf, .slice Af mf.length kf]] at hS
  refine WL.not rfl rfl ?_
  refine WL.done ?_
  refine W.cond2 rfl (fun c15 => ?_) (fun c15 => ?_)
  · have hv := hv.1 (c15)
    refine W.seq ?_
    refine W.region ?_
    refine WL.assign rfl rfl ?_
    refine WL.done ?_
    refine W.ret ?_
    refine ⟨_, rfl, Fin.nil ?_⟩
    exact ⟨_, hS.ext, (hS.pick [] rfl).rows, News.of (hS.pick [] rfl).rows rfl, ⟨false, rfl, rfl, hv⟩⟩
  · have hv := hv.2 (c15)
    refine W.skip ?_
    refine W.seq ?_
    refine W.region ?_
    refine WL.loadV (cs := [.int .i64 Pf, .int .i64 Mf, .slice Af mf.length kf]) Try.el24 Try.agg24 rfl rfl (Own.vcells (hS.own (i := 0) rfl)) rfl ?_
    refine SL.call hS (ok_made (hS.ro hf) hv) Try.func21 rfl Try.nm21 rfl rfl ?_
    rintro _ _ w17 ⟨o, hv, hK⟩ hGw17 hS
    cases o with
    | none =>
      obtain ⟨rfl, rfl⟩ := hK
      change St _ _ _ _ [.row 24 3 (some ⟨g11, 0, none⟩) 1 1 [.int .i64 Pf, .int .i64 Mf, .slice Af mf.length kf]] at hS
      refine WL.assign rfl rfl ?_
      refine WL.done ?_
      refine W.seq ?_
      refine W.seq ?_
      refine W.region ?_
      refine WL.move rfl rfl ?_
      refine WL.eqlPn Try.underlying26 rfl rfl rfl rfl ?_
      refine WL.move rfl rfl ?_
      refine WL.pass rfl rfl rfl ?_
      refine WL.pass rfl rfl rfl ?_
      refine WL.pass rfl rfl rfl ?_
      refine WL.pass rfl rfl rfl ?_
      refine WL.pick rfl rfl rfl ?_
      refine WL.done ?_
      refine W.condT rfl ?_
      refine W.seq ?_
      refine W.region ?_
      refine WL.assign rfl rfl ?_
      refine WL.done ?_
      refine W.ret ?_
      refine ⟨_, rfl, Fin.nil ?_⟩
      exact ⟨_, hS.ext, (hS.pick [] rfl).rows, News.of (hS.pick [] rfl).rows rfl, ⟨true, rfl, rfl, hv⟩⟩
    | some F19 =>
      obtain ⟨ad20, lo21, hi22, rfl, rfl⟩ := hK
      change St _ _ _ _ [.ch lo21 hi22 (fun wz => GFX lo21 hi22 wz ad20 F19), .row 24 3 (some ⟨g11, 0, none⟩) 1 1 [.int .i64 Pf, .int .i64 Mf, .slice Af mf.length kf]] at hS
      refine WL.assign rfl rfl ?_
      refine WL.done ?_
      refine W.seq ?_
      refine W.seq ?_
      refine W.region ?_
      refine WL.move rfl rfl ?_
      refine WL.eqlPn Try.underlying26 rfl rfl rfl rfl ?_
      refine WL.move rfl rfl ?_
      refine WL.take rfl ?_
      refine WL.move rfl rfl ?_
      refine WL.take rfl ?_
      refine SL.lit1 (vs := [.slice Ap p.length kp]) hS Try.underlying37 Try.el22 rfl rfl rfl rfl (by simp [Value.oneCell']) rfl ?_
      intro A25 w26 hS
      refine WL.take rfl ?_
      refine SL.call hS (ok_short (ls := ([p] : List (List Int))) ⟨_, _, (hS.rd (i := 0) rfl), ⟨⟨_, _, _, rfl, (Rd.is_m (hS.ro hp))⟩, trivial⟩⟩ hv) Try.func26 rfl Try.nm26 rfl rfl ?_
      rintro _ _ w28 ⟨r29, rfl, rfl, hv⟩ hGw28 hS
      change St _ _ _ _ [.row 22 1 A25 1 1 [.slice Ap p.length kp], .ch lo21 hi22 (fun wz => GFX lo21 hi22 wz ad20 F19), .row 24 3 (some ⟨g11, 0, none⟩) 1 1 [.int .i64 Pf, .int .i64 Mf, .slice Af mf.length kf]] at hS
      refine WL.take rfl ?_
      refine WL.not rfl rfl ?_
      refine WL.pick rfl rfl rfl ?_
      refine WL.done ?_
      refine W.cond2 rfl (fun c30 => ?_) (fun c30 => ?_)
      · have hv := hv.1 (c30)
        refine W.seq ?_
        refine W.region ?_
        refine WL.assign rfl rfl ?_
        refine WL.done ?_
        refine W.ret ?_
        refine ⟨_, rfl, Fin.nil ?_⟩
        exact ⟨_, hS.ext, (hS.pick [] rfl).rows, News.of (hS.pick [] rfl).rows rfl, ⟨true, rfl, rfl, hv⟩⟩
      · have hv := hv.2 (c30)
        refine W.skip ?_
        refine W.seq ?_
        refine W.region ?_
        refine WL.move rfl rfl ?_
        refine WL.move rfl rfl ?_
        refine SL.call hS (ok_roots (GFX.gfr (hS.chunk (i := 1) rfl)) (hS.ro hp) hv) Try.func59 rfl Try.nm59 rfl rfl ?_
        rintro _ _ w31 ⟨x32, r36, A33, k34, rfl, rfl, hv⟩ hGw31 hS
        change St _ _ _ _ [.row 3 1 A33 x32.length k34 (is x32), .row 22 1 A25 1 1 [.slice Ap p.length kp], .ch lo21 hi22 (fun wz => GFX lo21 hi22 wz ad20 F19), .row 24 3 (some ⟨g11, 0, none⟩) 1 1 [.int .i64 Pf, .int .i64 Mf, .slice Af mf.length kf]] at hS
        refine WL.move rfl rfl ?_
        refine WL.extract rfl rfl rfl ?_
        refine WL.extract rfl rfl rfl ?_
        refine WL.assign rfl rfl ?_
        refine WL.assign rfl rfl ?_
        refine WL.done ?_
        refine W.seq ?_
        refine W.region ?_
        refine WL.loadV (cs := [.int .i64 Pf, .int .i64 Mf, .slice Af mf.length kf]) Try.el24 Try.agg24 rfl rfl (Own.vcells (hS.own (i := 3) rfl)) rfl ?_
        refine WL.move rfl rfl ?_
        refine SL.call hS (ok_rdeg (hS.ro hf) (hS.ro hp) hv) Try.func38 rfl Try.nm38 rfl rfl ?_
        rintro _ _ w37 ⟨r38, rfl, rfl, hv⟩ hGw37 hS
        change St _ _ _ _ [.row 3 1 A33 x32.length k34 (is x32), .row 22 1 A25 1 1 [.slice Ap p.length kp], .ch lo21 hi22 (fun wz => GFX lo21 hi22 wz ad20 F19), .row 24 3 (some ⟨g11, 0, none⟩) 1 1 [.int .i64 Pf, .int .i64 Mf, .slice Af mf.length kf]] at hS
        refine WL.assign rfl rfl ?_
        refine WL.done ?_
        refine W.seq ?_
        refine W.seq ?_
        refine W.region ?_
        refine WL.move rfl rfl ?_
        refine WL.lssD rfl rfl rfl ?_
        refine WL.done ?_
        refine W.cond2 rfl (fun c39 => ?_) (fun c39 => ?_)
        · have hv := hv.1 (of_decide_eq_true c39)
          refine W.seq ?_
          refine W.region ?_
          refine WL.move rfl rfl ?_
          refine WL.eqlD rfl rfl rfl ?_
          refine WL.move rfl rfl ?_
          by_cases g40 : r36 = (7 : Int)
          · have hv := hv.1 g40
            rw [decide_eq_true g40]
            refine WL.take rfl ?_
            refine WL.move rfl rfl ?_
            refine WL.take rfl ?_
            refine WL.len Try.underlying22 rfl rfl ?_
            refine WL.take rfl ?_
            refine WL.eqlD rfl rfl rfl ?_
            refine WL.pick rfl rfl rfl ?_
            refine WL.assign rfl rfl ?_
            refine WL.done ?_
            refine W.ret ?_
            refine ⟨_, rfl, Fin.nil ?_⟩
            exact ⟨_, hS.ext, (hS.pick [] rfl).rows, News.of (hS.pick [] rfl).rows rfl, ⟨(decide (((x32.length : Nat) : Int) = (0 : Int))), rfl, rfl, hv⟩⟩
          · have hv := hv.2 g40
            rw [decide_eq_false g40]
            refine WL.pass rfl rfl rfl ?_
            refine WL.pass rfl rfl rfl ?_
            refine WL.pass rfl rfl rfl ?_
            refine WL.pick rfl rfl rfl ?_
            refine WL.assign rfl rfl ?_
            refine WL.done ?_
            refine W.ret ?_
            refine ⟨_, rfl, Fin.nil ?_⟩
            exact ⟨_, hS.ext, (hS.pick [] rfl).rows, News.of (hS.pick [] rfl).rows rfl, ⟨false, rfl, rfl, hv⟩⟩
        · have hv := hv.2 (of_decide_eq_false c39)
          refine W.skip ?_
          refine W.seq ?_
          refine W.seq ?_
          refine W.region ?_
          refine WL.move rfl rfl ?_
          refine WL.neqD rfl rfl rfl ?_
          refine WL.move rfl rfl ?_
          by_cases g41 : r36 ≠ (0 : Int)
          · have hv := hv.1 g41
            rw [decide_eq_true g41]
            refine WL.pass rfl rfl rfl ?_
            refine WL.pass rfl rfl rfl ?_
            refine WL.pass rfl rfl rfl ?_
            refine WL.pass rfl rfl rfl ?_
            refine WL.pick rfl rfl rfl ?_
            refine WL.move rfl rfl ?_
            refine WL.pass rfl rfl rfl ?_
            refine WL.pass rfl rfl rfl ?_
            refine WL.pass rfl rfl rfl ?_
            refine WL.pass rfl rfl rfl ?_
            refine WL.pass rfl rfl rfl ?_
            refine WL.pass rfl rfl rfl ?_
            refine WL.pick rfl rfl rfl ?_
            refine WL.done ?_
            refine W.condT rfl ?_
            refine W.seq ?_
            refine W.region ?_
            refine WL.assign rfl rfl ?_
            refine WL.done ?_
            refine W.ret ?_
            refine ⟨_, rfl, Fin.nil ?_⟩
            exact ⟨_, hS.ext, (hS.pick [] rfl).rows, News.of (hS.pick [] rfl).rows rfl, ⟨false, rfl, rfl, hv⟩⟩
          · have hv := hv.2 g41
            rw [decide_eq_false g41]
            refine WL.take rfl ?_
            refine WL.move rfl rfl ?_
            refine WL.take rfl ?_
            refine WL.len Try.underlying22 rfl rfl ?_
            refine WL.take rfl ?_
            refine WL.move rfl rfl ?_
            refine WL.take rfl ?_
            refine WL.gtrD rfl rfl rfl ?_
            refine WL.pick rfl rfl rfl ?_
            refine WL.move rfl rfl ?_
            by_cases g42 : r38 < ((x32.length : Nat) : Int)
            · have hv := hv.1 g42
              rw [decide_eq_true g42]
              refine WL.pass rfl rfl rfl ?_
              refine WL.pass rfl rfl rfl ?_
              refine WL.pass rfl rfl rfl ?_
              refine WL.pass rfl rfl rfl ?_
              refine WL.pass rfl rfl rfl ?_
              refine WL.pass rfl rfl rfl ?_
              refine WL.pick rfl rfl rfl ?_
              refine WL.done ?_
              refine W.condT rfl ?_
              refine W.seq ?_
              refine W.region ?_
              refine WL.assign rfl rfl ?_
              refine WL.done ?_
              refine W.ret ?_
              refine ⟨_, rfl, Fin.nil ?_⟩
              exact ⟨_, hS.ext, (hS.pick [] rfl).rows, News.of (hS.pick [] rfl).rows rfl, ⟨false, rfl, rfl, hv⟩⟩
            · have hv := hv.2 g42
              rw [decide_eq_false g42]
              refine WL.take rfl ?_
              refine WL.move rfl rfl ?_
              refine WL.take rfl ?_
              refine WL.loadV (cs := [.int .i64 Pf, .int .i64 Mf, .slice Af mf.length kf]) Try.el24 Try.agg24 rfl rfl (Own.vcells (hS.own (i := 3) rfl)) rfl ?_
              refine WL.take rfl ?_
              refine WL.move rfl rfl ?_
              refine WL.take rfl ?_
              refine SL.call hS (ok_rroots (hS.ro hf) (hS.ro hp) hv) Try.func60 rfl Try.nm60 rfl rfl ?_
              rintro _ _ w43 ⟨x44, A45, k46, rfl, rfl, hv⟩ hGw43 hS
              change St _ _ _ _ [.row 3 1 A45 x44.length k46 (is x44), .row 3 1 A33 x32.length k34 (is x32), .row 22 1 A25 1 1 [.slice Ap p.length kp], .ch lo21 hi22 (fun wz => GFX lo21 hi22 wz ad20 F19), .row 24 3 (some ⟨g11, 0, none⟩) 1 1 [.int .i64 Pf, .int .i64 Mf, .slice Af mf.length kf]] at hS
              refine WL.take rfl ?_
              refine SL.call hS (ok_lsame (hS.rd (i := 1) rfl) (hS.rd (i := 0) rfl) hv) Try.func23 rfl Try.nm23 rfl rfl ?_
              rintro _ _ w48 ⟨r49, rfl, rfl, hv⟩ hGw48 hS
              change St _ _ _ _ [.row 3 1 A45 x44.length k46 (is x44), .row 3 1 A33 x32.length k34 (is x32), .row 22 1 A25 1 1 [.slice Ap p.length kp], .ch lo21 hi22 (fun wz => GFX lo21 hi22 wz ad20 F19), .row 24 3 (some ⟨g11, 0, none⟩) 1 1 [.int .i64 Pf, .int .i64 Mf, .slice Af mf.length kf]] at hS
              refine WL.take rfl ?_
              refine WL.not rfl rfl ?_
              refine WL.pick rfl rfl rfl ?_
              refine WL.done ?_
              refine W.cond2 rfl (fun c50 => ?_) (fun c50 => ?_)
              · have hv := hv.1 (c50)
                refine W.seq ?_
                refine W.region ?_
                refine WL.assign rfl rfl ?_
                refine WL.done ?_
                refine W.ret ?_
                refine ⟨_, rfl, Fin.nil ?_⟩
                exact ⟨_, hS.ext, (hS.pick [] rfl).rows, News.of (hS.pick [] rfl).rows rfl, ⟨false, rfl, rfl, hv⟩⟩
              · have hv := hv.2 (c50)
                refine W.skip ?_
                refine W.seq ?_
                refine W.region ?_
                refine WL.move rfl rfl ?_
                refine WL.move rfl rfl ?_
                refine SL.call hS (ok_fromRoots (GFX.gfr (hS.chunk (i := 3) rfl)) (hS.rd (i := 1) rfl) hv) Try.func48 rfl Try.nm48 rfl rfl ?_
                rintro _ _ w51 ⟨x52, A53, k54, rfl, rfl, hv⟩ hGw51 hS
                change St _ _ _ _ [.row 3 1 A53 x52.length k54 (is x52), .row 3 1 A45 x44.length k46 (is x44), .row 3 1 A33 x32.length k34 (is x32), .row 22 1 A25 1 1 [.slice Ap p.length kp], .ch lo21 hi22 (fun wz => GFX lo21 hi22 wz ad20 F19), .row 24 3 (some ⟨g11, 0, none⟩) 1 1 [.int .i64 Pf, .int .i64 Mf, .slice Af mf.length kf]] at hS
                refine WL.assign rfl rfl ?_
                refine WL.done ?_
                refine W.seq ?_
                refine W.region ?_
                refine WL.loadV (cs := [.int .i64 Pf, .int .i64 Mf, .slice Af mf.length kf]) Try.el24 Try.agg24 rfl rfl (Own.vcells (hS.own (i := 5) rfl)) rfl ?_
                refine WL.move rfl rfl ?_
                refine SL.call hS (ok_rdeg (hS.ro hf) (hS.rd (i := 0) rfl) hv) Try.func38 rfl Try.nm38 rfl rfl ?_
                rintro _ _ w56 ⟨r57, rfl, rfl, hv⟩ hGw56 hS
                change St _ _ _ _ [.row 3 1 A53 x52.length k54 (is x52), .row 3 1 A45 x44.length k46 (is x44), .row 3 1 A33 x32.length k34 (is x32), .row 22 1 A25 1 1 [.slice Ap p.length kp], .ch lo21 hi22 (fun wz => GFX lo21 hi22 wz ad20 F19), .row 24 3 (some ⟨g11, 0, none⟩) 1 1 [.int .i64 Pf, .int .i64 Mf, .slice Af mf.length kf]] at hS
                refine WL.move rfl rfl ?_
                refine WL.len Try.underlying22 rfl rfl ?_
                refine WL.eqlD rfl rfl rfl ?_
                refine WL.move rfl rfl ?_
                by_cases g58 : r57 = ((x32.length : Nat) : Int)
                · have hv := hv.1 g58
                  rw [decide_eq_true g58]
                  refine WL.take rfl ?_
                  refine WL.loadV (cs := [.int .i64 Pf, .int .i64 Mf, .slice Af mf.length kf]) Try.el24 Try.agg24 rfl rfl (Own.vcells (hS.own (i := 5) rfl)) rfl ?_
                  refine WL.take rfl ?_
                  refine WL.move rfl rfl ?_
                  refine WL.take rfl ?_
                  refine WL.move rfl rfl ?_
                  refine WL.take rfl ?_
                  refine SL.call hS (ok_rrem (hS.ro hf) (hS.ro hp) (hS.rd (i := 0) rfl) hv) Try.func41 rfl Try.nm41 rfl rfl ?_
                  rintro _ _ w59 ⟨x60, A61, k62, rfl, rfl, hv⟩ hGw59 hS
                  change St _ _ _ _ [.row 3 1 A61 x60.length k62 (is x60), .row 3 1 A53 x52.length k54 (is x52), .row 3 1 A45 x44.length k46 (is x44), .row 3 1 A33 x32.length k34 (is x32), .row 22 1 A25 1 1 [.slice Ap p.length kp], .ch lo21 hi22 (fun wz => GFX lo21 hi22 wz ad20 F19), .row 24 3 (some ⟨g11, 0, none⟩) 1 1 [.int .i64 Pf, .int .i64 Mf, .slice Af mf.length kf]] at hS
                  refine WL.take rfl ?_
                  refine WL.len Try.underlying22 rfl rfl ?_
                  refine WL.take rfl ?_
                  refine WL.eqlD rfl rfl rfl ?_
                  refine WL.pick rfl rfl rfl ?_
                  refine WL.assign rfl rfl ?_
                  refine WL.done ?_
                  refine W.ret ?_
                  refine ⟨_, rfl, Fin.nil ?_⟩
                  exact ⟨_, hS.ext, (hS.pick [] rfl).rows, News.of (hS.pick [] rfl).rows rfl, ⟨(decide (((x60.length : Nat) : Int) = (0 : Int))), rfl, rfl, hv⟩⟩
                · have hv := hv.2 g58
                  rw [decide_eq_false g58]
                  refine WL.pass rfl rfl rfl ?_
                  refine WL.pass rfl rfl rfl ?_
                  refine WL.pass rfl rfl rfl ?_
                  refine WL.pass rfl rfl rfl ?_
                  refine WL.pass rfl rfl rfl ?_
                  refine WL.pass rfl rfl rfl ?_
                  refine WL.pick rfl rfl rfl ?_
                  refine WL.assign rfl rfl ?_
                  refine WL.done ?_
                  refine W.ret ?_
                  refine ⟨_, rfl, Fin.nil ?_⟩
                  exact ⟨_, hS.ext, (hS.pick [] rfl).rows, News.of (hS.pick [] rfl).rows rfl, ⟨false, rfl, rfl, hv⟩⟩

end Go.Proofs.Ytmdigamgojfjdaa
set_option linter.unusedVariables false
set_option linter.unusedSimpArgs false
namespace Go.Proofs.Ytmdigamgojfjdaa
open Ks
/-! ### greatest common divisors, values, derivatives, roots -/
section
variable {k : Ks} {F : GFv} {P M : Int} {mf : List Int}
theorem rts_len (f : Pl k.E) : ∀ n, (rts k f n).length ≤ n
  | 0 => Nat.le_refl 0
  | n + 1 => by
    have := rts_len f n
    unfold rts; split
    · rw [List.length_append]; simp; omega
    · omega
theorem w_roots {p : List Int} {Q : List Int × Int → Prop} (K : GFk F k.p k.m k.v k.g) (hp : p.length ≤ 100000) (h0 : k.pol p = 0 → Q ([], 7)) (h1 : k.pol p ≠ 0 → Q (rts k (k.pol p) (k.p ^ k.m), 0)) : V_roots F p Q := by
  have hq := k.q256
  refine w_canon K (by omega) ⟨fun e => h0 ((L_len0 (pol_fs p)).1 (by omega)), fun e => ?_⟩
  show I64 F.q ∧ _
  rw [K.q, Int.toNat_natCast]
  refine ⟨small (by omega) (by omega), fun i x => i ≤ k.p ^ k.m ∧ x = rts k (k.pol p) i, ⟨Nat.zero_le _, rfl⟩, ?_, ?_⟩
  · rintro i hi _ ⟨_, rfl⟩
    have hl := rts_len (k := k) (k.pol p) i
    refine w_eval K ?_
    rw [pol_L (pol_fs p)]
    refine ⟨fun hr => ⟨by omega, by omega, ?_⟩, fun hr => ⟨by omega, ?_⟩⟩
    · rw [rts, if_pos (co_eq0.1 hr)]
    · rw [rts, if_neg (fun h => hr (co_eq0.2 h))]
  · rintro _ ⟨_, rfl⟩
    exact h1 (fun h => e (by rw [(L_len0 (pol_fs p)).2 h]; rfl))
end
end Go.Proofs.Ytmdigamgojfjdaa
set_option linter.unusedVariables false
set_option linter.unusedSimpArgs false
namespace Go.Proofs.Ytmdigamgojfjdaa
open Ks
/-! ### the reference's quotients, values; what the laws ask first -/
section
variable {k : Ks} {F : GFv} {P M : Int} {mf : List Int}
theorem w_rroots {p : List Int} {Q : List Int → Prop} (hF : FV P M mf k.p k.m k.v) (hp : p.length ≤ 100000) (h : Q (rts k (k.pol p) (k.p ^ k.m))) : V_rroots P M mf p Q := by
  have hq := k.q256
  refine ⟨fun x z => ∃ j : Nat, z = j ∧ j ≤ k.p ^ k.m ∧ x = rts k (k.pol p) j, fun x z => (((k.p ^ k.m : Nat) : Int) - z).toNat, ⟨0, rfl, Nat.zero_le _, rfl⟩, ?_⟩
  rintro _ _ ⟨j, rfl, hj, rfl⟩
  dsimp only
  have hl := rts_len (k := k) (k.pol p) j
  refine v_rOrder ?_
  rw [hF.ord]
  refine ⟨fun hz => ⟨fun x b => x = rts k (k.pol p) (j + 1), w_reval hF hp ⟨fun h0 => ⟨by omega, ?_⟩, fun h0 => ?_⟩, ?_⟩, fun hz => ?_⟩
  · rw [rts, if_pos (co_eq0.1 h0)]
  · rw [rts, if_neg (fun e => h0 (co_eq0.2 e))]
  · rintro _ b rfl
    exact ⟨small (by omega) (by omega), ⟨j + 1, by push_cast; rfl, by omega, rfl⟩, by omega⟩
  · rw [show j = k.p ^ k.m by omega]; exact h
end
end Go.Proofs.Ytmdigamgojfjdaa
set_option linter.unusedVariables false
set_option linter.unusedSimpArgs false
namespace Go.Proofs.Ytmdigamgojfjdaa
open Ks
section
variable {k : Ks} {F : GFv} {P M : Int} {mf : List Int}
theorem rts_spec (f : Pl k.E) : ∀ n, (∀ i, i < (rts k f n).length → ∃ j : Nat, j < n ∧ vo (rts k f n) i = j ∧ vl_ f (k.el (j : Int)) = 0) ∧ ∀ i i', i < i' → i' < (rts k f n).length → vo (rts k f n) i < vo (rts k f n) i'
  | 0 => ⟨fun i hi => absurd hi (Nat.not_lt_zero i), fun i i' h1 h2 => absurd h2 (Nat.not_lt_zero i')⟩
  | n + 1 => by
    obtain ⟨h1, h2⟩ := rts_spec f n
    by_cases h0 : vl_ f (k.el (n : Int)) = 0
    · rw [rts, if_pos h0]
      have hl : (rts k f n ++ [(n : Int)]).length = (rts k f n).length + 1 := by rw [List.length_append]; rfl
      have hv : ∀ i, vo (rts k f n ++ [(n : Int)]) i = if i < (rts k f n).length then vo (rts k f n) i else vo [(n : Int)] (i - (rts k f n).length) := fun i => vo_app
      refine ⟨fun i hi => ?_, fun i i' hii hi' => ?_⟩
      · rw [hl] at hi
        rw [hv]
        by_cases hc : i < (rts k f n).length
        · rw [if_pos hc]
          obtain ⟨j, h3, h4, h5⟩ := h1 i hc
          exact ⟨j, by omega, h4, h5⟩
        · rw [if_neg hc, show i - (rts k f n).length = 0 by omega]
          exact ⟨n, by omega, rfl, h0⟩
      · rw [hl] at hi'
        rw [hv, hv, if_pos (by omega)]
        by_cases hc : i' < (rts k f n).length
        · rw [if_pos hc]; exact h2 i i' hii hc
        · rw [if_neg hc, show i' - (rts k f n).length = 0 by omega]
          obtain ⟨j, h3, h4, _⟩ := h1 i (by omega)
          rw [h4]
          show (j : Int) < (n : Int)
          omega
    · rw [rts, if_neg h0]
      exact ⟨fun i hi => by obtain ⟨j, h3, h4, h5⟩ := h1 i hi; exact ⟨j, by omega, h4, h5⟩, h2⟩
theorem law_PolyRoots (p : List Int) : V_PolyRoots P M mf p (fun b => b = true) := by
  refine w_alive ⟨fun h => absurd h (by decide), fun _ => w_made (fun _ => rfl) fun F k K hF => w_short1 rfl fun hp => ?_⟩
  have hpf := pol_fs (k := k) p
  have hlp := L_len (pol_su (k := k) p)
  refine w_roots K (by omega) (fun h0 => w_rdeg hF (by omega) ⟨fun _ => ⟨fun _ => rfl, fun h => absurd rfl h⟩, fun h => absurd ((deg_neg hpf).2 h0) h⟩) fun h0 => w_rdeg hF (by omega) ⟨fun h => absurd ((deg_neg hpf).1 h) h0, fun _ => f0 ?_⟩
  obtain ⟨h1, h2⟩ := rts_spec (k.pol p) (k.p ^ k.m)
  have hq := k.q256
  have hlr := rts_len (k := k) (k.pol p) (k.p ^ k.m)
  generalize hR : rts k (k.pol p) (k.p ^ k.m) = R at *
  have hroot : ∀ i, i < R.length → vl_ (k.pol p) (k.pol R i) = 0 := fun i hi => by
    obtain ⟨j, h3, h4, h5⟩ := h1 i hi
    show vl_ (k.pol p) (k.el (vo R i)) = 0
    rw [h4]; exact h5
  have hdis : ∀ i j, i < j → j < R.length → k.pol R i ≠ k.pol R j := fun i j hij hj e => by
    obtain ⟨a, h3, h4, _⟩ := h1 i (by omega)
    obtain ⟨b, h6, h7, _⟩ := h1 j hj
    have h8 := h2 i j hij hj
    have e2 : k.co (k.el (vo R i)) = k.co (k.el (vo R j)) := congrArg _ e
    rw [co_el (by rw [h4]; omega), co_el (by rw [h7]; omega)] at e2
    omega
  have hdv := lpf_dv hpf (k.pol R) R.length hroot hdis
  obtain ⟨d, hd⟩ : ∃ d, Dg (k.pol p) d := ⟨_, (L_rp (k := k) hpf).dg (Nat.pos_of_ne_zero fun e => h0 ((L_len0 hpf).1 e))⟩
  have hdl := L_dg (k := k) hd
  have hle := hdv.dg (lpf_dg _ _) hd
  have hll := L_dg (k := k) (lpf_dg (k.pol R) R.length)
  have hlf := lpf_fs (k.pol R) R.length
  refine ⟨fun h => by omega, fun _ => w_rroots hF (by omega) ?_⟩
  rw [hR]
  refine w_same (by omega) rfl (nb (w_fromRoots K (by omega) (w_rdeg hF (by omega) ?_)))
  rw [pol_L hlf]
  refine ⟨fun _ => w_rrem (k := k) hF (by omega) (by omega) (by rw [pol_L hlf]; exact (lpf_dg _ _).ne) ?_, fun h => absurd (by rw [hll]; omega) h⟩
  rw [pol_L hlf, (rm_zero hpf (lpf_dg _ _)).1 hdv, L_zero]; rfl
end
end Go.Proofs.Ytmdigamgojfjdaa
