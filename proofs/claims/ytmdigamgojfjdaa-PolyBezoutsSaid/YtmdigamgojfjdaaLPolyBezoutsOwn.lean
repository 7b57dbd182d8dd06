/- What only this law leans on. -/
import Derived.Test.YtmdigamgojfjdaaPolyMonicG11
set_option linter.unusedSimpArgs false
set_option linter.unusedVariables false
namespace Go.Proofs.Ytmdigamgojfjdaa
open Go.RowKit
section
variable {X : World → Prop} {w0 w w' : World} {mr : Option Nat} {R : List Rw}
/-- What came in, among the pieces. -/
theorem St.addRo {B z m c : Nat} {A : Option Addr} {cs : List Value} (h : St X w0 none w R) (hr : Rd B w0 z A m c cs) (hz : 0 < z := by decide) : St X w0 none w (.ro z A m c cs :: R) := by
  have h1 : Rd w0.heap.size w0 z A m c cs := hr.norm hz
  have h2 : Rd w.heap.size w z A m c cs := (h1.ext h.ext).more h.size
  refine ⟨h.ext, ⟨⟨hz, h2⟩, fun s hs hm g hg hg2 => ?_, h.rows⟩, h.x, h.cl, h.lt⟩
  obtain ⟨ad, e1, e2, _⟩ := h1.cells hg.2
  have hlt : g < w0.heap.size := by have := hg.1; rw [e1] at this; cases this; exact e2
  have hs' := h.rows.mem hs
  cases s with
  | row e z A m c cs => have := (hs'.2 g hg2).resolve_right (by simp); omega
  | ch lo hi Pr => simp [Rw.mut] at hm
  | ro => simp [Rw.mut] at hm
end
section
variable {P : Program} {n : Nat} {ro : Option Nat} {df : List Deferred} {N : Post} {L : Fr} {w w0 : World} {ops : Array Oper} {rest : List Oper}
variable {d : Nat} {ty : TypeId} {pos : String} {af : Array Edge}
end
end Go.Proofs.Ytmdigamgojfjdaa
set_option linter.unusedVariables false
namespace Go.Proofs.Ytmdigamgojfjdaa
open Go.RowKit
theorem Try.nm29 : (Try.f29.name == "runtime.NumGoroutine") = false := by kernel_rfl
theorem Try.nm40 : (Try.f40.name == "runtime.NumGoroutine") = false := by kernel_rfl
theorem Try.nm42 : (Try.f42.name == "runtime.NumGoroutine") = false := by kernel_rfl
theorem Try.nm43 : (Try.f43.name == "runtime.NumGoroutine") = false := by kernel_rfl
theorem Try.nm79 : (Try.f79.name == "runtime.NumGoroutine") = false := by kernel_rfl
end Go.Proofs.Ytmdigamgojfjdaa
set_option linter.unusedVariables false
set_option linter.unusedSimpArgs false
set_option linter.unusedSectionVars false
namespace Go.Proofs.Ytmdigamgojfjdaa
section
variable {α : Type} [Cr α]
end
section
variable {α : Type} [Cr α] [Fd α]
theorem dvd_zero0 {f : Pl α} (h : Dv 0 f) : f = 0 := by obtain ⟨k, _, rfl⟩ := h; exact Cr.zero_mul k
theorem gd_ex : ∀ (n : Nat) {f g : Pl α}, Fs f → Su g n → ∃ d, Gd f g d ∧ Fs d ∧ (Mn d ∨ d = 0)
  | 0, f, g, hf, hg => by
    obtain ⟨n, hn⟩ := hf
    rw [hg.eq0]
    rcases dg_ex hn with h | ⟨d, _, h⟩
    · exact ⟨0, by rw [h]; exact Gd.zero 0, Fs.zero, .inr rfl⟩
    · obtain ⟨u, hu⟩ := Fd.inv (f d) h.1
      have e : ct (f d) * (ct u * f) = f := Pl.ext fun i => by rw [ct_mul, ct_mul, ← Cr.mul_assoc, hu, Cr.one_mul]
      have hu0 : u ≠ 0 := fun e0 => Fd.ne (α := α) (by rw [← hu, e0, Cr.mul_zero])
      refine ⟨ct u * f, (Gd.zero f).assoc ⟨ct (f d), Fs.ct _, by rw [Cr.mul_comm, e]⟩ ⟨ct u, Fs.ct _, Cr.mul_comm _ _⟩, (Fs.ct u).mul ⟨n, hn⟩, .inl ⟨d, ⟨?_, h.2.ct u⟩, ?_⟩⟩
      · rw [ct_mul]; intro h1; rcases Fd.nzd h1 with h1 | h1
        · exact hu0 h1
        · exact h.1 h1
      · rw [ct_mul, Cr.mul_comm, hu]
  | n + 1, f, g, hf, hg => by
    rcases dg_ex hg with h | ⟨d, hd, h⟩
    · exact gd_ex n hf (by rw [h]; exact Su.zero n)
    · obtain ⟨m, hm⟩ := hf
      obtain ⟨a, r, h1, h2, h3⟩ := div_ex h hm
      obtain ⟨e, e1, e2, e3⟩ := gd_ex n (f := g) (g := r) ⟨_, hg⟩ (h3.mono (by omega))
      exact ⟨e, Gd.step ⟨_, h1⟩ h2 e1, e2, e3⟩
theorem gc_spec {f g : Pl α} (hf : Fs f) (hg : Fs g) : Gd f g (gc f g) ∧ Fs (gc f g) ∧ (Mn (gc f g) ∨ gc f g = 0) := by
  obtain ⟨n, hn⟩ := hg
  have h := gd_ex n hf hn
  unfold gc; rw [dif_pos h]; exact Classical.choose_spec h
theorem Gd.zero0 {f g : Pl α} (h : Gd f g 0) : f = 0 ∧ g = 0 := ⟨dvd_zero0 h.1, dvd_zero0 h.2.1⟩
theorem gc_uniq {f g d : Pl α} (hf : Fs f) (hg : Fs g) (h : Gd f g d) (hm : Mn d ∨ d = 0) : d = gc f g := by
  obtain ⟨h1, _, h2⟩ := gc_spec hf hg
  have key : ∀ {e e' : Pl α}, Gd f g e → Gd f g e' → e = 0 → e' = 0 := fun {e e'} h3 h4 h5 => by
    subst h5
    obtain ⟨rfl, rfl⟩ := h3.zero0
    exact dvd_zero0 (h4.2.2 0 (Dv.zero 0) (Dv.zero 0))
  rcases hm with hm | hm
  · rcases h2 with h2 | h2
    · exact h.uniq h1 hm h2
    · rw [key h1 h h2, h2]
  · rw [key h h1 hm, hm]
/-- a polynomial, divided by its leading coefficient -/
theorem monic_ct {f : Pl α} {d : Nat} (h : Dg f d) : Mn (ct (inv_ (f d)) * f) := ⟨d, h.ct (inv_ne h.1), by rw [ct_mul, Cr.mul_comm, mul_inv h.1]⟩
end
end Go.Proofs.Ytmdigamgojfjdaa
set_option linter.unusedSimpArgs false
set_option linter.unusedVariables false
namespace Go.Proofs.Ytmdigamgojfjdaa
open Go.RowKit
def V_psub (Fg : GFv) (p : List Int) (t : List Int) (Q : List Int → Prop) : Prop :=
  V_join Fg p t (fun xc yc Qc => V_Sub Fg xc yc Qc) (fun x12 => Q x12)
theorem ok_psub {w : World} {Q : List Int → Prop} {Fg : GFv} {p : List Int} {t : List Int} {ag : Addr} {Bg : Nat} (hgg : GFR Bg w ag Fg) {Bp : Nat} {Ap : Option Addr} {np kp : Nat} (hp : Rd Bp w 1 Ap np kp (is p)) {Bt : Nat} {At : Option Addr} {nt kt : Nat} (ht : Rd Bt w 1 At nt kt (is t)) (hv : V_psub Fg p t Q) :
    Calls Try.prog 29 #[.pointer (some ag), .slice Ap np kp, .slice At nt kt] w fun e w' => ∃ v Qr, e = .returned v ∧ w.grownBy w' none ∧ Rows w.heap.size none w' Qr ∧ News w.heap.size Qr ∧ ∃ (r0 : List Int) (Ar0 : Option Addr) (cr0 : Nat), v = .slice Ar0 r0.length cr0 ∧ Qr = [.row 3 1 Ar0 r0.length cr0 (is r0)] ∧ Q r0 := by
  have hgg_ := hgg
  obtain ⟨Ag_mod, kg_mod, Ag_exp, kg_exp, Ag_log, kg_log, Ag_above, kg_above, hg_c, hg_mod, hg_exp, hg_log, hg_above⟩ := hgg_
  have hnp := hp.ilen
  subst hnp
  have hnt := ht.ilen
  subst hnt
  refine calls_swap ?_
  refine calls_of_W (vs := [.pointer (some ag), .slice Ap p.length kp, .slice At t.length kt]) [6] Try.func29 rfl rfl rfl rfl ?_
  have hS := St.start w
  unfold V_psub at hv
  refine W.seq ?_
  refine W.region ?_
  refine WL.assign rfl rfl ?_
  refine WL.done ?_
  refine W.seq ?_
  refine W.region ?_
  refine WL.move rfl rfl ?_
  refine WL.move rfl rfl ?_
  refine WL.move rfl rfl ?_
  refine WL.move rfl rfl ?_
  refine WL.makeFuncB (us := [.pointer (some ag)]) (vs := []) rfl rfl rfl ?_
  refine SL.call hS (ok_join (GFR.ext (GFR.norm hgg) hS.ext) (hS.ro hp) (hS.ro ht) (bsop := [.pointer (some ag)]) (csop := []) Try.func68 rfl Try.nm68 (fun wc xc yc Qc hg hv => (show Calls Try.prog 68 #[.pointer (some ag), .int .i64 xc, .int .i64 yc] wc _ from ok_Sub (GFR.ext (GFR.ext (GFR.norm hgg) hS.ext) hg) hv)) hv) Try.func66 rfl Try.nm66 rfl rfl ?_
  rintro _ _ w11 ⟨x12, A13, k14, rfl, rfl, hv⟩ hGw11 hS
  change St _ _ _ _ [.row 3 1 A13 x12.length k14 (is x12)] at hS
  refine WL.assign rfl rfl ?_
  refine WL.done ?_
  refine W.ret ?_
  refine ⟨_, rfl, Fin.nil ?_⟩
  exact ⟨_, hS.ext, (hS.pick [0] rfl).rows, News.of (hS.pick [0] rfl).rows rfl, ⟨x12, A13, k14, rfl, rfl, hv⟩⟩

def V_cofactor (Fg : GFv) (p : List Int) (t : List Int) (Q : List Int × List Int → Prop) : Prop :=
  ∃ (I65 : List Int → List Int → List Int → List Int → Prop) (μ66 : List Int → List Int → List Int → List Int → Nat), I65 p t ([(1 : Int)] : List Int) ([] : List Int) ∧ ∀ (x49 : List Int) (x53 : List Int) (x57 : List Int) (x61 : List Int), (I65 x49 x53 x57 x61 → (V_deg Fg x53 (fun r69 => (((0 : Int) ≤ r69) → (V_pdivmod Fg x49 x53 (fun q => match q with | (x72, x76, r80) => V_pmul Fg ([x72, x61] : List (List Int)) (fun x85 => V_psub Fg x57 x85 (fun x90 => I65 x53 x76 x61 x90 ∧ μ66 x53 x76 x61 x90 < μ66 x49 x53 x57 x61))))) ∧ (¬ ((0 : Int) ≤ r69) → (V_canon Fg x49 (fun x95 => ((((x95.length : Nat) : Int) = (0 : Int)) → (Q (([] : List Int), ([] : List Int)))) ∧ (¬ (((x95.length : Nat) : Int) = (0 : Int)) → ((I64 (((x95.length : Nat) : Int) - (1 : Int))) ∧ ((0 ≤ (((x95.length : Nat) : Int) - (1 : Int)) ∧ (((x95.length : Nat) : Int) - (1 : Int)) < (x95.length : Nat)) ∧ (V_Inv Fg (gi x95 (((x95.length : Nat) : Int) - (1 : Int))) (fun q => match q with | (r103, r104) => V_Scale Fg r103 x95 (fun x106 => V_Scale Fg r103 x57 (fun x111 => Q (x106, x111))))))))))))))
theorem ok_cofactor {w : World} {Q : List Int × List Int → Prop} {Fg : GFv} {p : List Int} {t : List Int} {ag : Addr} {Bg : Nat} (hgg : GFR Bg w ag Fg) {Bp : Nat} {Ap : Option Addr} {np kp : Nat} (hp : Rd Bp w 1 Ap np kp (is p)) {Bt : Nat} {At : Option Addr} {nt kt : Nat} (ht : Rd Bt w 1 At nt kt (is t)) (hv : V_cofactor Fg p t Q) :
    Calls Try.prog 79 #[.pointer (some ag), .slice Ap np kp, .slice At nt kt] w fun e w' => ∃ v Qr, e = .returned v ∧ w.grownBy w' none ∧ Rows w.heap.size none w' Qr ∧ News w.heap.size Qr ∧ ∃ (r0 : List Int) (r1 : List Int) (Ar0 : Option Addr) (cr0 : Nat) (Ar1 : Option Addr) (cr1 : Nat), v = .tuple #[.slice Ar0 r0.length cr0, .slice Ar1 r1.length cr1] ∧ Qr = [.row 3 1 Ar0 r0.length cr0 (is r0), .row 3 1 Ar1 r1.length cr1 (is r1)] ∧ Q (r0, r1) := by
  have hgg_ := hgg
  obtain ⟨Ag_mod, kg_mod, Ag_exp, kg_exp, Ag_log, kg_log, Ag_above, kg_above, hg_c, hg_mod, hg_exp, hg_log, hg_above⟩ := hgg_
  have hnp := hp.ilen
  subst hnp
  have hnt := ht.ilen
  subst hnt
  refine calls_swap ?_
  refine calls_of_W (vs := [.pointer (some ag), .slice Ap p.length kp, .slice At t.length kt]) [6, 7] Try.func79 rfl rfl rfl rfl ?_
  have hS := St.start w
  unfold V_cofactor at hv
  refine W.seq ?_
  refine W.region ?_
  refine WL.assign rfl rfl ?_
  refine WL.assign rfl rfl ?_
  refine WL.done ?_
  refine W.seq ?_
  refine W.region ?_
  refine SL.lit1 (vs := is ([(1 : Int)] : List Int)) hS Try.underlying22 Try.el3 rfl rfl rfl rfl (is_one _) rfl ?_
  intro A11 w12 hS
  refine SL.lit1 (vs := is ([] : List Int)) hS Try.underlying22 Try.el3 rfl rfl rfl rfl (is_one _) rfl ?_
  intro A14 w15 hS
  refine WL.assign rfl rfl ?_
  refine WL.assign rfl rfl ?_
  refine WL.done ?_
  refine W.seq ?_
  refine W.block ?_
  obtain ⟨I65, μ66, hv, hk115⟩ := hv
  have hS := hS.addRo hp
  have hS := hS.addRo ht
  have hS := hS.pick [1, 0, 3, 2] rfl
  have hm2 : 1 = ([(1 : Int)] : List Int).length := (hS.rd (i := 2) rfl).ilen.symm
  have hS := hS.relen (i := 2) rfl hm2
  have hm3 : 0 = ([] : List Int).length := (hS.rd (i := 3) rfl).ilen.symm
  have hS := hS.relen (i := 3) rfl hm3
  change St _ _ _ _ [.ro 1 Ap p.length kp (is p), .ro 1 At t.length kt (is t), .row 3 1 A11 ([(1 : Int)] : List Int).length 1 (is ([(1 : Int)] : List Int)), .row 3 1 A14 ([] : List Int).length 0 (is ([] : List Int))] at hS
  refine W.loop (σ := List Int × List Int × List Int × List Int × Option Addr × Nat × Option Addr × Nat × Option Addr × Nat × Option Addr × Nat) (fun q w1 => match q with | (x49, x53, x57, x61, A50, k51, A54, k55, A58, k59, A62, k63) => I65 x49 x53 x57 x61 ∧ St TT w none w1 [.ro 1 A50 x49.length k51 (is x49), .ro 1 A54 x53.length k55 (is x53), .row 3 1 A58 x57.length k59 (is x57), .row 3 1 A62 x61.length k63 (is x61)]) (fun q => match q with | (x49, x53, x57, x61, A50, k51, A54, k55, A58, k59, A62, k63) => [(0, .pointer (some ag)), (1, .slice A50 x49.length k51), (2, .slice A54 x53.length k55), (6, .slice none 0 0), (7, .slice A58 x57.length k59), (8, .slice A62 x61.length k63)]) (fun q => match q with | (x49, x53, x57, x61, A50, k51, A54, k55, A58, k59, A62, k63) => μ66 x49 x53 x57 x61) (p, t, ([(1 : Int)] : List Int), ([] : List Int), Ap, kp, At, kt, A11, 1, A14, 0) ⟨hv, hS⟩ ⟨rfl, rfl, rfl, rfl, (sm (by first | rfl | assumption | omega)), (sm (by first | rfl | assumption | omega)), trivial⟩ ?_
  rintro ⟨x49, x53, x57, x61, A50, k51, A54, k55, A58, k59, A62, k63⟩ w67 ⟨hv, hS⟩
  have hv := hk115 x49 x53 x57 x61 hv
  refine W.seq ?_
  refine W.seq ?_
  refine W.region ?_
  refine WL.move rfl rfl ?_
  refine WL.move rfl rfl ?_
  refine SL.call hS (ok_deg (GFR.ext (GFR.norm hgg) hS.ext) (hS.rop (i := 1) rfl) hv) Try.func25 rfl Try.nm25 rfl rfl ?_
  rintro _ _ w68 ⟨r69, rfl, rfl, hv⟩ hGw68 hS
  change St _ _ _ _ [.ro 1 A50 x49.length k51 (is x49), .ro 1 A54 x53.length k55 (is x53), .row 3 1 A58 x57.length k59 (is x57), .row 3 1 A62 x61.length k63 (is x61)] at hS
  refine WL.geqD rfl rfl rfl ?_
  refine WL.done ?_
  refine W.cond2 rfl (fun c70 => ?_) (fun c70 => ?_)
  · have hv := hv.1 (of_decide_eq_true c70)
    refine W.skip ?_
    refine W.block ?_
    refine W.seq ?_
    refine W.region ?_
    refine WL.move rfl rfl ?_
    refine WL.move rfl rfl ?_
    refine WL.move rfl rfl ?_
    refine SL.call hS (ok_pdivmod (GFR.ext (GFR.norm hgg) hS.ext) (hS.rop (i := 0) rfl) (hS.rop (i := 1) rfl) hv) Try.func37 rfl Try.nm37 rfl rfl ?_
    rintro _ _ w71 ⟨x72, x76, r80, A73, k74, A77, k78, rfl, rfl, hv⟩ hGw71 hS
    change St _ _ _ _ [.row 3 1 A73 x72.length k74 (is x72), .row 3 1 A77 x76.length k78 (is x76), .ro 1 A50 x49.length k51 (is x49), .ro 1 A54 x53.length k55 (is x53), .row 3 1 A58 x57.length k59 (is x57), .row 3 1 A62 x61.length k63 (is x61)] at hS
    refine WL.move rfl rfl ?_
    refine WL.extract rfl rfl rfl ?_
    refine WL.extract rfl rfl rfl ?_
    refine WL.extract rfl rfl rfl ?_
    refine WL.assign rfl rfl ?_
    refine WL.assign rfl rfl ?_
    refine WL.assign rfl rfl ?_
    refine WL.done ?_
    refine W.seq ?_
    refine W.region ?_
    refine WL.move rfl rfl ?_
    refine WL.move rfl rfl ?_
    refine WL.assign rfl rfl ?_
    refine WL.assign rfl rfl ?_
    refine WL.done ?_
    refine W.region ?_
    refine WL.move rfl rfl ?_
    refine WL.move rfl rfl ?_
    refine WL.move rfl rfl ?_
    refine WL.move rfl rfl ?_
    refine WL.move rfl rfl ?_
    refine WL.move rfl rfl ?_
    refine SL.lit1 (vs := [.slice A73 x72.length k74, .slice A62 x61.length k63]) hS Try.underlying37 Try.el22 rfl rfl rfl rfl (by simp [Value.oneCell']) rfl ?_
    intro A81 w82 hS
    refine SL.call hS (ok_pmul (GFR.ext (GFR.norm hgg) hS.ext) (fs := ([x72, x61] : List (List Int))) ⟨_, _, (hS.rd (i := 0) rfl), ⟨⟨_, _, _, rfl, (Rd.is_m (hS.rd (i := 1) rfl))⟩, ⟨_, _, _, rfl, (Rd.is_m (hS.rd (i := 6) rfl))⟩, trivial⟩⟩ hv) Try.func32 rfl Try.nm32 rfl rfl ?_
    rintro _ _ w84 ⟨x85, A86, k87, rfl, rfl, hv⟩ hGw84 hS
    change St _ _ _ _ [.row 3 1 A86 x85.length k87 (is x85), .row 22 1 A81 2 2 [.slice A73 x72.length k74, .slice A62 x61.length k63], .row 3 1 A73 x72.length k74 (is x72), .row 3 1 A77 x76.length k78 (is x76), .ro 1 A50 x49.length k51 (is x49), .ro 1 A54 x53.length k55 (is x53), .row 3 1 A58 x57.length k59 (is x57), .row 3 1 A62 x61.length k63 (is x61)] at hS
    refine SL.call hS (ok_psub (GFR.ext (GFR.norm hgg) hS.ext) (hS.rd (i := 6) rfl) (hS.rd (i := 0) rfl) hv) Try.func29 rfl Try.nm29 rfl rfl ?_
    rintro _ _ w89 ⟨x90, A91, k92, rfl, rfl, hv⟩ hGw89 hS
    change St _ _ _ _ [.row 3 1 A91 x90.length k92 (is x90), .row 3 1 A86 x85.length k87 (is x85), .row 22 1 A81 2 2 [.slice A73 x72.length k74, .slice A62 x61.length k63], .row 3 1 A73 x72.length k74 (is x72), .row 3 1 A77 x76.length k78 (is x76), .ro 1 A50 x49.length k51 (is x49), .ro 1 A54 x53.length k55 (is x53), .row 3 1 A58 x57.length k59 (is x57), .row 3 1 A62 x61.length k63 (is x61)] at hS
    refine WL.assign rfl rfl ?_
    refine WL.assign rfl rfl ?_
    refine WL.done ?_
    have hS := hS.freeze (i := 4) rfl
    have hS := hS.pick [6, 4, 8, 0] rfl
    change St _ _ _ _ [.ro 1 A54 x53.length k55 (is x53), .ro 1 A77 x76.length k78 (is x76), .row 3 1 A62 x61.length k63 (is x61), .row 3 1 A91 x90.length k92 (is x90)] at hS
    exact ⟨(x53, x76, x61, x90, A54, k55, A77, k78, A62, k63, A91, k92), ⟨rfl, rfl, rfl, rfl, rfl, rfl, trivial⟩, hv.2, rfl, hv.1, hS⟩
  · have hv := hv.2 (of_decide_eq_false c70)
    refine W.exit ?_
    refine W.seq ?_
    refine W.region ?_
    refine WL.move rfl rfl ?_
    refine WL.move rfl rfl ?_
    refine SL.call hS (ok_canon (GFR.ext (GFR.norm hgg) hS.ext) (hS.rop (i := 0) rfl) hv) Try.func22 rfl Try.nm22 rfl rfl ?_
    rintro _ _ w94 ⟨x95, A96, k97, rfl, rfl, hv⟩ hGw94 hS
    change St _ _ _ _ [.row 3 1 A96 x95.length k97 (is x95), .ro 1 A50 x49.length k51 (is x49), .ro 1 A54 x53.length k55 (is x53), .row 3 1 A58 x57.length k59 (is x57), .row 3 1 A62 x61.length k63 (is x61)] at hS
    refine WL.assign rfl rfl ?_
    refine WL.done ?_
    refine W.seq ?_
    refine W.seq ?_
    refine W.region ?_
    refine WL.move rfl rfl ?_
    refine WL.len Try.underlying22 rfl rfl ?_
    refine WL.eqlD rfl rfl rfl ?_
    refine WL.done ?_
    refine W.cond2 rfl (fun c99 => ?_) (fun c99 => ?_)
    · have hv := hv.1 (of_decide_eq_true c99)
      refine W.seq ?_
      refine W.region ?_
      refine WL.assign rfl rfl ?_
      refine WL.assign rfl rfl ?_
      refine WL.done ?_
      refine W.ret ?_
      have hS := hS.nil (e := 3) (z := 1)
      have hS := hS.nil (e := 3) (z := 1)
      refine ⟨_, rfl, Fin.nil ?_⟩
      exact ⟨_, hS.ext, (hS.pick [1, 0] rfl).rows, News.of (hS.pick [1, 0] rfl).rows rfl, ⟨([] : List Int), ([] : List Int), none, 0, none, 0, rfl, rfl, hv⟩⟩
    · have hv := hv.2 (of_decide_eq_false c99)
      refine W.skip ?_
      refine W.seq ?_
      refine W.region ?_
      refine WL.move rfl rfl ?_
      refine WL.move rfl rfl ?_
      refine WL.move rfl rfl ?_
      refine WL.len Try.underlying22 rfl rfl ?_
      obtain ⟨o100, hv⟩ := hv
      refine WL.sub (r := (((x95.length : Nat) : Int) - (1 : Int))) rfl rfl (wr o100) rfl ?_
      obtain ⟨o101, hv⟩ := hv
      refine SL.index Try.underlying22 Try.el3 (hS.rd (i := 0) rfl) rfl rfl o101 rfl ?_
      refine WL.load Try.underlying3 rfl rfl (Rd.gi (hS.rd (i := 0) rfl) o101) rfl ?_
      refine SL.call hS (ok_Inv (GFR.ext (GFR.norm hgg) hS.ext) hv) Try.func73 rfl Try.nm73 rfl rfl ?_
      rintro _ _ w102 ⟨r103, r104, rfl, rfl, hv⟩ hGw102 hS
      change St _ _ _ _ [.row 3 1 A96 x95.length k97 (is x95), .ro 1 A50 x49.length k51 (is x49), .ro 1 A54 x53.length k55 (is x53), .row 3 1 A58 x57.length k59 (is x57), .row 3 1 A62 x61.length k63 (is x61)] at hS
      refine WL.move rfl rfl ?_
      refine WL.extract rfl rfl rfl ?_
      refine WL.extract rfl rfl rfl ?_
      refine WL.assign rfl rfl ?_
      refine WL.assign rfl rfl ?_
      refine WL.done ?_
      refine W.seq ?_
      refine W.region ?_
      refine WL.move rfl rfl ?_
      refine WL.move rfl rfl ?_
      refine WL.move rfl rfl ?_
      refine SL.call hS (ok_Scale (GFR.ext (GFR.norm hgg) hS.ext) (hS.rd (i := 0) rfl) hv) Try.func72 rfl Try.nm72 rfl rfl ?_
      rintro _ _ w105 ⟨x106, A107, k108, rfl, rfl, hv⟩ hGw105 hS
      change St _ _ _ _ [.row 3 1 A107 x106.length k108 (is x106), .row 3 1 A96 x95.length k97 (is x95), .ro 1 A50 x49.length k51 (is x49), .ro 1 A54 x53.length k55 (is x53), .row 3 1 A58 x57.length k59 (is x57), .row 3 1 A62 x61.length k63 (is x61)] at hS
      refine WL.move rfl rfl ?_
      refine WL.move rfl rfl ?_
      refine WL.move rfl rfl ?_
      refine SL.call hS (ok_Scale (GFR.ext (GFR.norm hgg) hS.ext) (hS.rd (i := 4) rfl) hv) Try.func72 rfl Try.nm72 rfl rfl ?_
      rintro _ _ w110 ⟨x111, A112, k113, rfl, rfl, hv⟩ hGw110 hS
      change St _ _ _ _ [.row 3 1 A112 x111.length k113 (is x111), .row 3 1 A107 x106.length k108 (is x106), .row 3 1 A96 x95.length k97 (is x95), .ro 1 A50 x49.length k51 (is x49), .ro 1 A54 x53.length k55 (is x53), .row 3 1 A58 x57.length k59 (is x57), .row 3 1 A62 x61.length k63 (is x61)] at hS
      refine WL.assign rfl rfl ?_
      refine WL.assign rfl rfl ?_
      refine WL.done ?_
      refine W.ret ?_
      refine ⟨_, rfl, Fin.nil ?_⟩
      exact ⟨_, hS.ext, (hS.pick [1, 0] rfl).rows, News.of (hS.pick [1, 0] rfl).rows rfl, ⟨x106, x111, A107, k108, A112, k113, rfl, rfl, hv⟩⟩

def V_bezout (Fg : GFv) (p : List Int) (t : List Int) (Q : List Int × List Int × List Int → Prop) : Prop :=
  V_cofactor Fg p t (fun q => match q with | (x12, x16) => V_pmul Fg ([x16, p] : List (List Int)) (fun x24 => V_psub Fg x12 x24 (fun x29 => V_pdivmod Fg x29 t (fun q => match q with | (x34, x38, r42) => Q (x12, x16, x34)))))
theorem ok_bezout {w : World} {Q : List Int × List Int × List Int → Prop} {Fg : GFv} {p : List Int} {t : List Int} {ag : Addr} {Bg : Nat} (hgg : GFR Bg w ag Fg) {Bp : Nat} {Ap : Option Addr} {np kp : Nat} (hp : Rd Bp w 1 Ap np kp (is p)) {Bt : Nat} {At : Option Addr} {nt kt : Nat} (ht : Rd Bt w 1 At nt kt (is t)) (hv : V_bezout Fg p t Q) :
    Calls Try.prog 42 #[.pointer (some ag), .slice Ap np kp, .slice At nt kt] w fun e w' => ∃ v Qr, e = .returned v ∧ w.grownBy w' none ∧ Rows w.heap.size none w' Qr ∧ News w.heap.size Qr ∧ ∃ (r0 : List Int) (r1 : List Int) (r2 : List Int) (Ar0 : Option Addr) (cr0 : Nat) (Ar1 : Option Addr) (cr1 : Nat) (Ar2 : Option Addr) (cr2 : Nat), v = .tuple #[.slice Ar0 r0.length cr0, .slice Ar1 r1.length cr1, .slice Ar2 r2.length cr2] ∧ Qr = [.row 3 1 Ar0 r0.length cr0 (is r0), .row 3 1 Ar1 r1.length cr1 (is r1), .row 3 1 Ar2 r2.length cr2 (is r2)] ∧ Q (r0, r1, r2) := by
  have hgg_ := hgg
  obtain ⟨Ag_mod, kg_mod, Ag_exp, kg_exp, Ag_log, kg_log, Ag_above, kg_above, hg_c, hg_mod, hg_exp, hg_log, hg_above⟩ := hgg_
  have hnp := hp.ilen
  subst hnp
  have hnt := ht.ilen
  subst hnt
  refine calls_swap ?_
  refine calls_of_W (vs := [.pointer (some ag), .slice Ap p.length kp, .slice At t.length kt]) [6, 7, 8] Try.func42 rfl rfl rfl rfl ?_
  have hS := St.start w
  unfold V_bezout at hv
  refine W.seq ?_
  refine W.region ?_
  refine WL.assign rfl rfl ?_
  refine WL.assign rfl rfl ?_
  refine WL.assign rfl rfl ?_
  refine WL.done ?_
  refine W.seq ?_
  refine W.region ?_
  refine WL.move rfl rfl ?_
  refine WL.move rfl rfl ?_
  refine WL.move rfl rfl ?_
  refine SL.call hS (ok_cofactor (GFR.ext (GFR.norm hgg) hS.ext) (hS.ro hp) (hS.ro ht) hv) Try.func79 rfl Try.nm79 rfl rfl ?_
  rintro _ _ w11 ⟨x12, x16, A13, k14, A17, k18, rfl, rfl, hv⟩ hGw11 hS
  change St _ _ _ _ [.row 3 1 A13 x12.length k14 (is x12), .row 3 1 A17 x16.length k18 (is x16)] at hS
  refine WL.move rfl rfl ?_
  refine WL.extract rfl rfl rfl ?_
  refine WL.extract rfl rfl rfl ?_
  refine WL.assign rfl rfl ?_
  refine WL.assign rfl rfl ?_
  refine WL.done ?_
  refine W.seq ?_
  refine W.region ?_
  refine WL.move rfl rfl ?_
  refine WL.move rfl rfl ?_
  refine WL.move rfl rfl ?_
  refine WL.move rfl rfl ?_
  refine WL.move rfl rfl ?_
  refine WL.move rfl rfl ?_
  refine SL.lit1 (vs := [.slice A17 x16.length k18, .slice Ap p.length kp]) hS Try.underlying37 Try.el22 rfl rfl rfl rfl (by simp [Value.oneCell']) rfl ?_
  intro A20 w21 hS
  refine SL.call hS (ok_pmul (GFR.ext (GFR.norm hgg) hS.ext) (fs := ([x16, p] : List (List Int))) ⟨_, _, (hS.rd (i := 0) rfl), ⟨⟨_, _, _, rfl, (Rd.is_m (hS.rd (i := 2) rfl))⟩, ⟨_, _, _, rfl, (Rd.is_m (hS.ro hp))⟩, trivial⟩⟩ hv) Try.func32 rfl Try.nm32 rfl rfl ?_
  rintro _ _ w23 ⟨x24, A25, k26, rfl, rfl, hv⟩ hGw23 hS
  change St _ _ _ _ [.row 3 1 A25 x24.length k26 (is x24), .row 22 1 A20 2 2 [.slice A17 x16.length k18, .slice Ap p.length kp], .row 3 1 A13 x12.length k14 (is x12), .row 3 1 A17 x16.length k18 (is x16)] at hS
  refine SL.call hS (ok_psub (GFR.ext (GFR.norm hgg) hS.ext) (hS.rd (i := 2) rfl) (hS.rd (i := 0) rfl) hv) Try.func29 rfl Try.nm29 rfl rfl ?_
  rintro _ _ w28 ⟨x29, A30, k31, rfl, rfl, hv⟩ hGw28 hS
  change St _ _ _ _ [.row 3 1 A30 x29.length k31 (is x29), .row 3 1 A25 x24.length k26 (is x24), .row 22 1 A20 2 2 [.slice A17 x16.length k18, .slice Ap p.length kp], .row 3 1 A13 x12.length k14 (is x12), .row 3 1 A17 x16.length k18 (is x16)] at hS
  refine WL.move rfl rfl ?_
  refine SL.call hS (ok_pdivmod (GFR.ext (GFR.norm hgg) hS.ext) (hS.rd (i := 0) rfl) (hS.ro ht) hv) Try.func37 rfl Try.nm37 rfl rfl ?_
  rintro _ _ w33 ⟨x34, x38, r42, A35, k36, A39, k40, rfl, rfl, hv⟩ hGw33 hS
  change St _ _ _ _ [.row 3 1 A35 x34.length k36 (is x34), .row 3 1 A39 x38.length k40 (is x38), .row 3 1 A30 x29.length k31 (is x29), .row 3 1 A25 x24.length k26 (is x24), .row 22 1 A20 2 2 [.slice A17 x16.length k18, .slice Ap p.length kp], .row 3 1 A13 x12.length k14 (is x12), .row 3 1 A17 x16.length k18 (is x16)] at hS
  refine WL.move rfl rfl ?_
  refine WL.extract rfl rfl rfl ?_
  refine WL.extract rfl rfl rfl ?_
  refine WL.extract rfl rfl rfl ?_
  refine WL.assign rfl rfl ?_
  refine WL.done ?_
  refine W.seq ?_
  refine W.region ?_
  refine WL.move rfl rfl ?_
  refine WL.move rfl rfl ?_
  refine WL.move rfl rfl ?_
  refine WL.assign rfl rfl ?_
  refine WL.assign rfl rfl ?_
  refine WL.assign rfl rfl ?_
  refine WL.done ?_
  refine W.ret ?_
  refine ⟨_, rfl, Fin.nil ?_⟩
  exact ⟨_, hS.ext, (hS.pick [5, 6, 0] rfl).rows, News.of (hS.pick [5, 6, 0] rfl).rows rfl, ⟨x12, x16, x34, A13, k14, A17, k18, A35, k36, rfl, rfl, hv⟩⟩
end Go.Proofs.Ytmdigamgojfjdaa
set_option linter.unusedSimpArgs false
set_option linter.unusedVariables false
namespace Go.Proofs.Ytmdigamgojfjdaa
open Go.RowKit
def V_rmonic (Pf : Int) (Mf : Int) (mf : List Int) (p : List Int) (Q : List Int → Prop) : Prop :=
  V_rcanon Pf Mf mf p (fun x14 => ((((x14.length : Nat) : Int) = (0 : Int)) → Q x14) ∧ (¬ (((x14.length : Nat) : Int) = (0 : Int)) → ((I64 (((x14.length : Nat) : Int) - (1 : Int))) ∧ ((0 ≤ (((x14.length : Nat) : Int) - (1 : Int)) ∧ (((x14.length : Nat) : Int) - (1 : Int)) < (x14.length : Nat)) ∧ (∃ (r30 : Int), V_rInv Pf Mf mf (gi x14 (((x14.length : Nat) : Int) - (1 : Int))) (fun q => q = r30) ∧ (∃ (x35 : List Int), V_rpscale Pf Mf mf r30 x14 (fun q => q = x35) ∧ Q x35))))))
theorem ok_rmonic {w : World} {Q : List Int → Prop} {Pf : Int} {Mf : Int} {mf : List Int} {p : List Int} {Bf : Nat} {Af : Option Addr} {nf kf : Nat} (hf : Rd Bf w 1 Af nf kf (is mf)) {Bp : Nat} {Ap : Option Addr} {np kp : Nat} (hp : Rd Bp w 1 Ap np kp (is p)) (hv : V_rmonic Pf Mf mf p Q) :
    Calls Try.prog 40 #[.agg #[.int .i64 Pf, .int .i64 Mf, .slice Af nf kf], .slice Ap np kp] w fun e w' => ∃ v Qr, e = .returned v ∧ w.grownBy w' none ∧ Rows w.heap.size none w' Qr ∧ News w.heap.size Qr ∧ ∃ (r0 : List Int) (Ar0 : Option Addr) (cr0 : Nat), v = .slice Ar0 r0.length cr0 ∧ Qr = [.row 3 1 Ar0 r0.length cr0 (is r0)] ∧ Q r0 := by
  have hnf := hf.ilen
  subst hnf
  have hnp := hp.ilen
  subst hnp
  refine calls_swap ?_
  refine calls_of_W (vs := [.agg #[.int .i64 Pf, .int .i64 Mf, .slice Af mf.length kf], .slice Ap p.length kp]) [4] Try.func40 rfl rfl rfl rfl ?_
  have hS := St.start w
  unfold V_rmonic at hv
  refine W.seq ?_
  refine W.region ?_
  refine SL.box (z := 3) (cs := [.int .i64 Pf, .int .i64 Mf, .slice Af mf.length kf]) hS rfl rfl rfl rfl ?_
  intro g11 w12 hS
  refine WL.assign rfl rfl ?_
  refine WL.done ?_
  refine W.seq ?_
  refine W.region ?_
  refine WL.loadV (cs := [.int .i64 Pf, .int .i64 Mf, .slice Af mf.length kf]) Try.el24 Try.agg24 rfl rfl (Own.vcells (hS.own (i := 0) rfl)) rfl ?_
  refine WL.move rfl rfl ?_
  refine SL.call hS (ok_rcanon (hS.ro hf) (hS.ro hp) hv) Try.func24 rfl Try.nm24 rfl rfl ?_
  rintro _ _ w13 ⟨x14, A15, k16, rfl, rfl, hv⟩ hGw13 hS
  change St _ _ _ _ [.row 3 1 A15 x14.length k16 (is x14), .row 24 3 (some ⟨g11, 0, none⟩) 1 1 [.int .i64 Pf, .int .i64 Mf, .slice Af mf.length kf]] at hS
  refine WL.assign rfl rfl ?_
  refine WL.done ?_
  refine W.seq ?_
  refine W.seq ?_
  refine W.region ?_
  refine WL.move rfl rfl ?_
  refine WL.len Try.underlying22 rfl rfl ?_
  refine WL.eqlD rfl rfl rfl ?_
  refine WL.done ?_
  refine W.cond2 rfl (fun c18 => ?_) (fun c18 => ?_)
  · have hv := hv.1 (of_decide_eq_true c18)
    refine W.seq ?_
    refine W.region ?_
    refine WL.move rfl rfl ?_
    refine WL.assign rfl rfl ?_
    refine WL.done ?_
    refine W.ret ?_
    refine ⟨_, rfl, Fin.nil ?_⟩
    exact ⟨_, hS.ext, (hS.pick [0] rfl).rows, News.of (hS.pick [0] rfl).rows rfl, ⟨x14, A15, k16, rfl, rfl, hv⟩⟩
  · have hv := hv.2 (of_decide_eq_false c18)
    refine W.skip ?_
    refine W.seq ?_
    obtain ⟨o25, hv⟩ := hv
    obtain ⟨o27, hv⟩ := hv
    obtain ⟨r30, o32, hv⟩ := hv
    obtain ⟨x35, o42, hv⟩ := hv
    have hS0 := hS
    refine W.drawX 12 (fun iA => [false, false, false, false, false, false, false, false, false, false, true, false].getD iA false) (fun iC => match iC with | 11 => some 10 | _ => none) [⟨[], [2], false⟩, ⟨[], [2], false⟩, ⟨[], [1], true⟩, ⟨[], [1], true⟩, ⟨[3], [], true⟩, ⟨[4], [], true⟩, ⟨[2, 5], [], true⟩, ⟨[6], [], false⟩, ⟨[1, 7], [], false⟩, ⟨[], [1], true⟩, ⟨[0, 8, 9], [], false⟩, ⟨[10], [], true⟩] [[(2, .pointer (some ⟨g11, 0, none⟩))], [(2, .pointer (some ⟨g11, 0, none⟩))], [(1, .slice A15 x14.length k16)], [(1, .slice A15 x14.length k16)], [], [], [], [], [], [(1, .slice A15 x14.length k16)], [], []] (fun iQ => [fun v _ => v = .agg #[.int .i64 Pf, .int .i64 Mf, .slice Af mf.length kf], fun v _ => v = .agg #[.int .i64 Pf, .int .i64 Mf, .slice Af mf.length kf], fun v _ => v = .slice A15 x14.length k16, fun v _ => v = .slice A15 x14.length k16, fun v _ => v = .int .i64 ((x14.length : Nat) : Int), fun v _ => v = .int .i64 (((x14.length : Nat) : Int) - (1 : Int)), fun v _ => v = .pointer (some ((adOf A15).add ((((x14.length : Nat) : Int) - (1 : Int)).toNat))), fun v _ => v = .int .i64 (gi x14 (((x14.length : Nat) : Int) - (1 : Int))), fun v _ => v = .int .i64 r30, fun v _ => v = .slice A15 x14.length k16, fun v wQ => ∃ A36_10 k37_10, v = .slice A36_10 x35.length k37_10 ∧ Own 0 wQ 3 1 A36_10 x35.length k37_10 (is x35) ∧ (∀ g, bl A36_10 = some g → w13.heap.size ≤ g), fun v wQ => ∃ A36_10_11 k37_10_11, v = .slice A36_10_11 x35.length k37_10_11 ∧ Own 0 wQ 3 1 A36_10_11 x35.length k37_10_11 (is x35) ∧ (∀ g, bl A36_10_11 = some g → w13.heap.size ≤ g)].getD iQ (fun _ _ => True)) Try.mixed (by kernel_rfl) ?_ (by kernel_rfl) ?_ ?_
    · refine Vs_monoT _ ?_
      intro VQ hVQ vQ wQ1 wQ2 hQ1 hQ2
      simp only [List.mem_cons, List.not_mem_nil, or_false] at hVQ
      rcases hVQ with rfl | rfl | rfl | rfl | rfl | rfl | rfl | rfl | rfl | rfl | rfl | rfl
      · exact hQ1
      · exact hQ1
      · exact hQ1
      · exact hQ1
      · exact hQ1
      · exact hQ1
      · exact hQ1
      · exact hQ1
      · exact hQ1
      · exact hQ1
      · obtain ⟨A36_10, k37_10, hQe, hO40_10, hN41_10⟩ := hQ1
        exact ⟨A36_10, k37_10, hQe, hO40_10.ext hQ2, hN41_10⟩
      · obtain ⟨A36_10_11, k37_10_11, hQe, hO40_10_11, hN41_10_11⟩ := hQ1
        exact ⟨A36_10_11, k37_10_11, hQe, hO40_10_11.ext hQ2, hN41_10_11⟩
    · refine ⟨⟨rfl, ⟨rfl, trivial⟩, ?_⟩, ⟨rfl, ⟨rfl, trivial⟩, ?_⟩, ⟨rfl, ⟨rfl, trivial⟩, ?_⟩, ⟨rfl, ⟨rfl, trivial⟩, ?_⟩, ⟨rfl, trivial, ?_⟩, ⟨rfl, trivial, ?_⟩, ⟨rfl, trivial, ?_⟩, ⟨rfl, trivial, ?_⟩, ⟨rfl, trivial, ?_⟩, ⟨rfl, ⟨rfl, trivial⟩, ?_⟩, ⟨rfl, trivial, ?_⟩, ⟨rfl, trivial, ?_⟩, trivial⟩
      · intro w19 hE
        have hE := hE rfl
        have hS := hS.grow hE
        intro RR
        refine WL.loadV (cs := [.int .i64 Pf, .int .i64 Mf, .slice Af mf.length kf]) Try.el24 Try.agg24 rfl rfl (Own.vcells (hS.own (i := 1) rfl)) rfl ?_
        exact WL.done ⟨_, rfl, ext_refl _, rfl, (fun h => absurd h (by decide)), (fun j h => by cases h)⟩
      · intro w20 hE
        have hE := hE rfl
        have hS := hS.grow hE
        intro RR
        refine WL.loadV (cs := [.int .i64 Pf, .int .i64 Mf, .slice Af mf.length kf]) Try.el24 Try.agg24 rfl rfl (Own.vcells (hS.own (i := 1) rfl)) rfl ?_
        exact WL.done ⟨_, rfl, ext_refl _, rfl, (fun h => absurd h (by decide)), (fun j h => by cases h)⟩
      · intro w21 hE
        intro RR
        refine WL.move rfl rfl ?_
        exact WL.done ⟨_, rfl, rfl, rfl, (fun h => absurd h (by decide)), (fun j h => by cases h)⟩
      · intro w22 hE
        intro RR
        refine WL.move rfl rfl ?_
        exact WL.done ⟨_, rfl, rfl, rfl, (fun h => absurd h (by decide)), (fun j h => by cases h)⟩
      · intro w23 hE
        rintro _ rfl
        intro RR
        refine WL.len Try.underlying22 rfl rfl ?_
        exact WL.done ⟨_, rfl, rfl, rfl, (fun h => absurd h (by decide)), (fun j h => by cases h)⟩
      · intro w24 hE
        rintro _ rfl
        intro RR
        refine WL.sub (r := (((x14.length : Nat) : Int) - (1 : Int))) rfl rfl (wr o25) rfl ?_
        exact WL.done ⟨_, rfl, rfl, rfl, (fun h => absurd h (by decide)), (fun j h => by cases h)⟩
      · intro w26 hE
        rintro _ rfl
        rintro _ rfl
        intro RR
        refine SL.index Try.underlying22 Try.el3 (hS.rd (i := 0) rfl) rfl rfl o27 rfl ?_
        exact WL.done ⟨_, rfl, rfl, rfl, (fun h => absurd h (by decide)), (fun j h => by cases h)⟩
      · intro w28 hE
        have hE := hE rfl
        have hS := hS.grow hE
        rintro _ rfl
        intro RR
        refine WL.load Try.underlying3 rfl rfl (Rd.gi (hS.rd (i := 0) rfl) o27) rfl ?_
        exact WL.done ⟨_, rfl, ext_refl _, rfl, (fun h => absurd h (by decide)), (fun j h => by cases h)⟩
      · intro w29 hE
        have hE := hE rfl
        have hS := hS.grow hE
        rintro _ rfl
        rintro _ rfl
        intro RR
        refine WL.call Try.func77 rfl Try.nm77 rfl rfl (calls_un (ok_rInv (hS.ro hf) o32)) ?_
        rintro _ w31 ⟨_, hGw31, hRww31, hNww31, r30q, rfl, rfl, he⟩
        subst he
        exact WL.done ⟨_, rfl, hGw31, rfl, (fun h => absurd h (by decide)), (fun j h => by cases h)⟩
      · intro w33 hE
        intro RR
        refine WL.move rfl rfl ?_
        exact WL.done ⟨_, rfl, rfl, rfl, (fun h => absurd h (by decide)), (fun j h => by cases h)⟩
      · intro w34 hE
        have hE := hE rfl
        have hS := hS.grow hE
        rintro _ rfl
        rintro _ rfl
        rintro _ rfl
        intro RR
        refine WL.call Try.func34 rfl Try.nm34 rfl rfl (calls_un (ok_rpscale (hS.ro hf) (hS.rd (i := 0) rfl) o42)) ?_
        rintro _ w39 ⟨_, hGw39, hRww39, hNww39, x35q, A36, k37, rfl, rfl, he⟩
        subst he
        have hO40 := (hRww39.get (i := 0) rfl).1
        have hN41 : ∀ g, bl A36 = some g → _ ≤ g := fun g hg => Nat.le_trans hE.size (hNww39.1 g hg)
        exact WL.done ⟨_, rfl, hGw39, ⟨A36, k37, rfl, hO40, hN41⟩, (fun _ => fun g hg => ⟨hNww39.1 g hg, (hO40.bl_ge g hg).2⟩), (fun j h => by cases h)⟩
      · intro w43 hE
        rintro _ ⟨A36_10, k37_10, rfl, hO40_10, hN41_10⟩
        intro RR
        refine WL.assign rfl rfl ?_
        exact WL.done ⟨_, rfl, rfl, ⟨A36_10, k37_10, rfl, hO40_10, hN41_10⟩, (fun h => absurd h (by decide)), (fun j h => by cases h; rfl)⟩
    · intro vals w44 hT hVs hAp hCp
      have hS := hS.grow hT
      have hv0 : vals 0 = _ := hVs 0 (by decide)
      have hv1 : vals 1 = _ := hVs 1 (by decide)
      have hv2 : vals 2 = _ := hVs 2 (by decide)
      have hv3 : vals 3 = _ := hVs 3 (by decide)
      have hv4 : vals 4 = _ := hVs 4 (by decide)
      have hv5 : vals 5 = _ := hVs 5 (by decide)
      have hv6 : vals 6 = _ := hVs 6 (by decide)
      have hv7 : vals 7 = _ := hVs 7 (by decide)
      have hv8 : vals 8 = _ := hVs 8 (by decide)
      have hv9 : vals 9 = _ := hVs 9 (by decide)
      obtain ⟨A36_10, k37_10, hv10, hO40_10, hN41_10⟩ := hVs 10 (by decide)
      have hv11 : vals 11 = .slice A36_10 x35.length k37_10 := (hCp 11 10 (by decide) rfl).trans hv10
      have hS := St.addOwn [] hS0 hS hO40_10 hN41_10 (fun s hs => by cases hs)
      change St _ _ _ _ [.row 3 1 A36_10 x35.length k37_10 (is x35), .row 3 1 A15 x14.length k16 (is x14), .row 24 3 (some ⟨g11, 0, none⟩) 1 1 [.int .i64 Pf, .int .i64 Mf, .slice Af mf.length kf]] at hS
      rw [show (List.filterMap (fun i => Option.map (fun t => (t, vals i)) (dstAt _ i)) (List.range _)) = [(12, .agg #[.int .i64 Pf, .int .i64 Mf, .slice Af mf.length kf]), (13, .agg #[.int .i64 Pf, .int .i64 Mf, .slice Af mf.length kf]), (14, .slice A15 x14.length k16), (15, .slice A15 x14.length k16), (16, .int .i64 ((x14.length : Nat) : Int)), (17, .int .i64 (((x14.length : Nat) : Int) - (1 : Int))), (18, .pointer (some ((adOf A15).add ((((x14.length : Nat) : Int) - (1 : Int)).toNat)))), (19, .int .i64 (gi x14 (((x14.length : Nat) : Int) - (1 : Int)))), (20, .int .i64 r30), (21, .slice A15 x14.length k16), (22, .slice A36_10 x35.length k37_10), (4, .slice A36_10 x35.length k37_10)] from by
        show [(12, vals 0), (13, vals 1), (14, vals 2), (15, vals 3), (16, vals 4), (17, vals 5), (18, vals 6), (19, vals 7), (20, vals 8), (21, vals 9), (22, vals 10), (4, vals 11)] = _
        rw [hv0, hv1, hv2, hv3, hv4, hv5, hv6, hv7, hv8, hv9, hv10, hv11]]
      refine WA.done (by decide +kernel) ?_
      refine W.ret ?_
      refine ⟨_, rfl, Fin.nil ?_⟩
      exact ⟨_, hS.ext, (hS.pick [0] rfl).rows, News.of (hS.pick [0] rfl).rows rfl, ⟨x35, A36_10, k37_10, rfl, rfl, hv⟩⟩

def V_rgcd (Pf : Int) (Mf : Int) (mf : List Int) (p : List Int) (t : List Int) (Q : List Int → Prop) : Prop :=
  V_rcanon Pf Mf mf p (fun x14 => V_rcanon Pf Mf mf t (fun x19 => ∃ (I47 : List Int → List Int → Prop) (μ48 : List Int → List Int → Nat), I47 x14 x19 ∧ ∀ (x39 : List Int) (x43 : List Int), (I47 x39 x43 → ((((0 : Int) < ((x43.length : Nat) : Int)) → (V_rdivmod Pf Mf mf x39 x43 (fun q => match q with | (x52, x56) => I47 x43 x56 ∧ μ48 x43 x56 < μ48 x39 x43))) ∧ (¬ ((0 : Int) < ((x43.length : Nat) : Int)) → (V_rmonic Pf Mf mf x39 (fun x61 => Q x61)))))))
theorem ok_rgcd {w : World} {Q : List Int → Prop} {Pf : Int} {Mf : Int} {mf : List Int} {p : List Int} {t : List Int} {Bf : Nat} {Af : Option Addr} {nf kf : Nat} (hf : Rd Bf w 1 Af nf kf (is mf)) {Bp : Nat} {Ap : Option Addr} {np kp : Nat} (hp : Rd Bp w 1 Ap np kp (is p)) {Bt : Nat} {At : Option Addr} {nt kt : Nat} (ht : Rd Bt w 1 At nt kt (is t)) (hv : V_rgcd Pf Mf mf p t Q) :
    Calls Try.prog 43 #[.agg #[.int .i64 Pf, .int .i64 Mf, .slice Af nf kf], .slice Ap np kp, .slice At nt kt] w fun e w' => ∃ v Qr, e = .returned v ∧ w.grownBy w' none ∧ Rows w.heap.size none w' Qr ∧ News w.heap.size Qr ∧ ∃ (r0 : List Int) (Ar0 : Option Addr) (cr0 : Nat), v = .slice Ar0 r0.length cr0 ∧ Qr = [.row 3 1 Ar0 r0.length cr0 (is r0)] ∧ Q r0 := by
  have hnf := hf.ilen
  subst hnf
  have hnp := hp.ilen
  subst hnp
  have hnt := ht.ilen
  subst hnt
  refine calls_swap ?_
  refine calls_of_W (vs := [.agg #[.int .i64 Pf, .int .i64 Mf, .slice Af mf.length kf], .slice Ap p.length kp, .slice At t.length kt]) [6] Try.func43 rfl rfl rfl rfl ?_
  have hS := St.start w
  unfold V_rgcd at hv
  refine W.seq ?_
  refine W.region ?_
  refine SL.box (z := 3) (cs := [.int .i64 Pf, .int .i64 Mf, .slice Af mf.length kf]) hS rfl rfl rfl rfl ?_
  intro g11 w12 hS
  refine WL.assign rfl rfl ?_
  refine WL.done ?_
  refine W.seq ?_
  refine W.region ?_
  refine WL.loadV (cs := [.int .i64 Pf, .int .i64 Mf, .slice Af mf.length kf]) Try.el24 Try.agg24 rfl rfl (Own.vcells (hS.own (i := 0) rfl)) rfl ?_
  refine WL.move rfl rfl ?_
  refine SL.call hS (ok_rcanon (hS.ro hf) (hS.ro hp) hv) Try.func24 rfl Try.nm24 rfl rfl ?_
  rintro _ _ w13 ⟨x14, A15, k16, rfl, rfl, hv⟩ hGw13 hS
  change St _ _ _ _ [.row 3 1 A15 x14.length k16 (is x14), .row 24 3 (some ⟨g11, 0, none⟩) 1 1 [.int .i64 Pf, .int .i64 Mf, .slice Af mf.length kf]] at hS
  refine WL.assign rfl rfl ?_
  refine WL.done ?_
  refine W.seq ?_
  refine W.region ?_
  refine WL.loadV (cs := [.int .i64 Pf, .int .i64 Mf, .slice Af mf.length kf]) Try.el24 Try.agg24 rfl rfl (Own.vcells (hS.own (i := 1) rfl)) rfl ?_
  refine WL.move rfl rfl ?_
  refine SL.call hS (ok_rcanon (hS.ro hf) (hS.ro ht) hv) Try.func24 rfl Try.nm24 rfl rfl ?_
  rintro _ _ w18 ⟨x19, A20, k21, rfl, rfl, hv⟩ hGw18 hS
  change St _ _ _ _ [.row 3 1 A20 x19.length k21 (is x19), .row 3 1 A15 x14.length k16 (is x14), .row 24 3 (some ⟨g11, 0, none⟩) 1 1 [.int .i64 Pf, .int .i64 Mf, .slice Af mf.length kf]] at hS
  refine WL.assign rfl rfl ?_
  refine WL.done ?_
  refine W.seq ?_
  refine W.block ?_
  obtain ⟨I47, μ48, hv, hk65⟩ := hv
  have hS := hS.pick [1, 0, 2] rfl
  change St _ _ _ _ [.row 3 1 A15 x14.length k16 (is x14), .row 3 1 A20 x19.length k21 (is x19), .row 24 3 (some ⟨g11, 0, none⟩) 1 1 [.int .i64 Pf, .int .i64 Mf, .slice Af mf.length kf]] at hS
  refine W.loop (σ := List Int × List Int × Option Addr × Nat × Option Addr × Nat) (fun q w1 => match q with | (x39, x43, A40, k41, A44, k45) => I47 x39 x43 ∧ St TT w none w1 [.row 3 1 A40 x39.length k41 (is x39), .row 3 1 A44 x43.length k45 (is x43), .row 24 3 (some ⟨g11, 0, none⟩) 1 1 [.int .i64 Pf, .int .i64 Mf, .slice Af mf.length kf]]) (fun q => match q with | (x39, x43, A40, k41, A44, k45) => [(1, .slice A40 x39.length k41), (2, .slice A44 x43.length k45), (3, .pointer (some ⟨g11, 0, none⟩)), (6, .slice none 0 0)]) (fun q => match q with | (x39, x43, A40, k41, A44, k45) => μ48 x39 x43) (x14, x19, A15, k16, A20, k21) ⟨hv, hS⟩ ⟨rfl, rfl, rfl, rfl, trivial⟩ ?_
  rintro ⟨x39, x43, A40, k41, A44, k45⟩ w49 ⟨hv, hS⟩
  have hv := hk65 x39 x43 hv
  refine W.seq ?_
  refine W.seq ?_
  refine W.region ?_
  refine WL.move rfl rfl ?_
  refine WL.len Try.underlying22 rfl rfl ?_
  refine WL.gtrD rfl rfl rfl ?_
  refine WL.done ?_
  refine W.cond2 rfl (fun c50 => ?_) (fun c50 => ?_)
  · have hv := hv.1 (of_decide_eq_true c50)
    refine W.skip ?_
    refine W.block ?_
    refine W.seq ?_
    refine W.region ?_
    refine WL.loadV (cs := [.int .i64 Pf, .int .i64 Mf, .slice Af mf.length kf]) Try.el24 Try.agg24 rfl rfl (Own.vcells (hS.own (i := 2) rfl)) rfl ?_
    refine WL.move rfl rfl ?_
    refine WL.move rfl rfl ?_
    refine SL.call hS (ok_rdivmod (hS.ro hf) (hS.rd (i := 0) rfl) (hS.rd (i := 1) rfl) hv) Try.func78 rfl Try.nm78 rfl rfl ?_
    rintro _ _ w51 ⟨x52, x56, A53, k54, A57, k58, rfl, rfl, hv⟩ hGw51 hS
    change St _ _ _ _ [.row 3 1 A53 x52.length k54 (is x52), .row 3 1 A57 x56.length k58 (is x56), .row 3 1 A40 x39.length k41 (is x39), .row 3 1 A44 x43.length k45 (is x43), .row 24 3 (some ⟨g11, 0, none⟩) 1 1 [.int .i64 Pf, .int .i64 Mf, .slice Af mf.length kf]] at hS
    refine WL.move rfl rfl ?_
    refine WL.extract rfl rfl rfl ?_
    refine WL.extract rfl rfl rfl ?_
    refine WL.assign rfl rfl ?_
    refine WL.assign rfl rfl ?_
    refine WL.done ?_
    refine W.seq ?_
    refine W.region ?_
    refine WL.move rfl rfl ?_
    refine WL.assign rfl rfl ?_
    refine WL.done ?_
    refine W.region ?_
    refine WL.move rfl rfl ?_
    refine WL.assign rfl rfl ?_
    refine WL.done ?_
    have hS := hS.pick [3, 1, 4] rfl
    change St _ _ _ _ [.row 3 1 A44 x43.length k45 (is x43), .row 3 1 A57 x56.length k58 (is x56), .row 24 3 (some ⟨g11, 0, none⟩) 1 1 [.int .i64 Pf, .int .i64 Mf, .slice Af mf.length kf]] at hS
    exact ⟨(x43, x56, A44, k45, A57, k58), ⟨rfl, rfl, rfl, rfl, trivial⟩, hv.2, rfl, hv.1, hS⟩
  · have hv := hv.2 (of_decide_eq_false c50)
    refine W.exit ?_
    refine W.seq ?_
    refine W.region ?_
    refine WL.loadV (cs := [.int .i64 Pf, .int .i64 Mf, .slice Af mf.length kf]) Try.el24 Try.agg24 rfl rfl (Own.vcells (hS.own (i := 2) rfl)) rfl ?_
    refine WL.move rfl rfl ?_
    refine SL.call hS (ok_rmonic (hS.ro hf) (hS.rd (i := 0) rfl) hv) Try.func40 rfl Try.nm40 rfl rfl ?_
    rintro _ _ w60 ⟨x61, A62, k63, rfl, rfl, hv⟩ hGw60 hS
    change St _ _ _ _ [.row 3 1 A62 x61.length k63 (is x61), .row 3 1 A40 x39.length k41 (is x39), .row 3 1 A44 x43.length k45 (is x43), .row 24 3 (some ⟨g11, 0, none⟩) 1 1 [.int .i64 Pf, .int .i64 Mf, .slice Af mf.length kf]] at hS
    refine WL.assign rfl rfl ?_
    refine WL.done ?_
    refine W.ret ?_
    refine ⟨_, rfl, Fin.nil ?_⟩
    exact ⟨_, hS.ext, (hS.pick [0] rfl).rows, News.of (hS.pick [0] rfl).rows rfl, ⟨x61, A62, k63, rfl, rfl, hv⟩⟩

end Go.Proofs.Ytmdigamgojfjdaa
set_option linter.unusedSimpArgs false
set_option linter.unusedVariables false
namespace Go.Proofs.Ytmdigamgojfjdaa
open Go.RowKit
def V_PolyBezouts (Pf : Int) (Mf : Int) (mf : List Int) (p : List Int) (t : List Int) (Q : Bool → Prop) : Prop :=
  V_alive  (fun r14 => (((!r14) = true) → Q false) ∧ ((!r14) = false → (V_made Pf Mf mf (fun q => match q with | none => Q true | some F19 => V_short ([p, t] : List (List Int)) (fun r29 => (((!r29) = true) → Q true) ∧ ((!r29) = false → (V_bezout F19 p t (fun q => match q with | (x32, x36, x40) => V_rgcd Pf Mf mf p t (fun x45 => ∃ (x54 : List Int), V_rpmul Pf Mf mf x36 p (fun q => q = x54) ∧ (∃ (x66 : List Int), V_rpmul Pf Mf mf x40 t (fun q => q = x66) ∧ (∃ (x75 : List Int), V_rpadd Pf Mf mf x54 x66 (fun q => q = x75) ∧ (V_lsame x32 x45 (fun r87 => (((!r87) = true) → Q false) ∧ ((!r87) = false → (V_lsame x75 x45 (fun r90 => (((!r90) = true) → Q false) ∧ ((!r90) = false → (V_rcanon Pf Mf mf x36 (fun x93 => V_lsame x36 x93 (fun r98 => (((!r98) = true) → Q false) ∧ ((!r98) = false → (V_rcanon Pf Mf mf x40 (fun x101 => V_lsame x40 x101 (fun r106 => (((!r106) = true) → Q false) ∧ ((!r106) = false → (∃ (r111 : Int), V_rdeg Pf Mf mf p (fun q => q = r111) ∧ (∃ (r117 : Int), V_rdeg Pf Mf mf t (fun q => q = r117) ∧ (∃ J123 : Prop, (((r111 < (0 : Int)) → (((r117 < (0 : Int)) → (((((x36.length : Nat) : Int) = (0 : Int)) → (Q (decide (((x40.length : Nat) : Int) = (0 : Int))))) ∧ (¬ (((x36.length : Nat) : Int) = (0 : Int)) → Q false))) ∧ (¬ (r117 < (0 : Int)) → (((r117 < (0 : Int)) → (((((x36.length : Nat) : Int) = (1 : Int)) → (Q (decide (((x40.length : Nat) : Int) = (0 : Int))))) ∧ (¬ (((x36.length : Nat) : Int) = (1 : Int)) → Q false))) ∧ (¬ (r117 < (0 : Int)) → J123))))) ∧ (¬ (r111 < (0 : Int)) → (((r117 < (0 : Int)) → (((((x36.length : Nat) : Int) = (1 : Int)) → (Q (decide (((x40.length : Nat) : Int) = (0 : Int))))) ∧ (¬ (((x36.length : Nat) : Int) = (1 : Int)) → Q false))) ∧ (¬ (r117 < (0 : Int)) → J123)))) ∧ (J123 → ((I64 (((x36.length : Nat) : Int) - (1 : Int))) ∧ ((I64 (((x45.length : Nat) : Int) - (1 : Int))) ∧ ((I64 (r117 - (((x45.length : Nat) : Int) - (1 : Int)))) ∧ (Q (decide ((((x36.length : Nat) : Int) - (1 : Int)) < (max (r117 - (((x45.length : Nat) : Int) - (1 : Int))) (0 : Int)))))))))))))))))))))))))))))))))))))
theorem ok_PolyBezouts {w : World} {Q : Bool → Prop} {Pf : Int} {Mf : Int} {mf : List Int} {p : List Int} {t : List Int} {Bf : Nat} {Af : Option Addr} {nf kf : Nat} (hf : Rd Bf w 1 Af nf kf (is mf)) {Bp : Nat} {Ap : Option Addr} {np kp : Nat} (hp : Rd Bp w 1 Ap np kp (is p)) {Bt : Nat} {At : Option Addr} {nt kt : Nat} (ht : Rd Bt w 1 At nt kt (is t)) (hv : V_PolyBezouts Pf Mf mf p t Q) :
    Calls Try.prog 10 #[.agg #[.int .i64 Pf, .int .i64 Mf, .slice Af nf kf], .slice Ap np kp, .slice At nt kt] w fun e w' => ∃ v Qr, e = .returned v ∧ w.grownBy w' none ∧ Rows w.heap.size none w' Qr ∧ News w.heap.size Qr ∧ ∃ (r0 : Bool), v = .bool r0 ∧ Qr = [] ∧ Q r0 := by
  have hnf := hf.ilen
  subst hnf
  have hnp := hp.ilen
  subst hnp
  have hnt := ht.ilen
  subst hnt
  refine calls_swap ?_
  refine calls_of_W (vs := [.agg #[.int .i64 Pf, .int .i64 Mf, .slice Af mf.length kf], .slice Ap p.length kp, .slice At t.length kt]) [6] Try.func10 rfl rfl rfl rfl ?_
  have hS := St.start w
  unfold V_PolyBezouts at hv
  refine W.seq ?_
  refine W.region ?_
  refine SL.box (z := 3) (cs := [.int .i64 Pf, .int .i64 Mf, .slice Af mf.length kf]) hS rfl rfl rfl rfl ?_
  intro g11 w12 hS
  refine WL.assign rfl rfl ?_
  refine WL.done ?_
  refine W.seq ?_
  refine W.seq ?_
  refine W.region ?_
  refine SL.call hS (ok_alive  hv) Try.func20 rfl Try.nm20 rfl rfl ?_
  rintro _ _ w13 ⟨r14, rfl, rfl, hv⟩ hGw13 hS
  change St _ _ _ _ [.row 24 3 (some ⟨g11, 0, none⟩) 1 1 [.int .i64 Pf, .int .i64 Mf, .slice Af mf.length kf]] at hS
  refine WL.not rfl rfl ?_
  refine WL.done ?_
  refine W.cond2 rfl (fun c15 => ?_) (fun c15 => ?_)
  · have hv := hv.1 (c15)
    refine W.seq ?_
    refine W.region ?_
    refine WL.assign rfl rfl ?_
    refine WL.done ?_
    refine W.ret ?_
    refine ⟨_, rfl, Fin.nil ?_⟩
    exact ⟨_, hS.ext, (hS.pick [] rfl).rows, News.of (hS.pick [] rfl).rows rfl, ⟨false, rfl, rfl, hv⟩⟩
  · have hv := hv.2 (c15)
    refine W.skip ?_
    refine W.seq ?_
    refine W.region ?_
    refine WL.loadV (cs := [.int .i64 Pf, .int .i64 Mf, .slice Af mf.length kf]) Try.el24 Try.agg24 rfl rfl (Own.vcells (hS.own (i := 0) rfl)) rfl ?_
    refine SL.call hS (ok_made (hS.ro hf) hv) Try.func21 rfl Try.nm21 rfl rfl ?_
    rintro _ _ w17 ⟨o, hv, hK⟩ hGw17 hS
    cases o with
    | none =>
      obtain ⟨rfl, rfl⟩ := hK
      change St _ _ _ _ [.row 24 3 (some ⟨g11, 0, none⟩) 1 1 [.int .i64 Pf, .int .i64 Mf, .slice Af mf.length kf]] at hS
      refine WL.assign rfl rfl ?_
      refine WL.done ?_
      refine W.seq ?_
      refine W.seq ?_
      refine W.region ?_
      refine WL.move rfl rfl ?_
      refine WL.eqlPn Try.underlying26 rfl rfl rfl rfl ?_
      refine WL.move rfl rfl ?_
      refine WL.pass rfl rfl rfl ?_
      refine WL.pass rfl rfl rfl ?_
      refine WL.pass rfl rfl rfl ?_
      refine WL.pass rfl rfl rfl ?_
      refine WL.pass rfl rfl rfl ?_
      refine WL.pick rfl rfl rfl ?_
      refine WL.done ?_
      refine W.condT rfl ?_
      refine W.seq ?_
      refine W.region ?_
      refine WL.assign rfl rfl ?_
      refine WL.done ?_
      refine W.ret ?_
      refine ⟨_, rfl, Fin.nil ?_⟩
      exact ⟨_, hS.ext, (hS.pick [] rfl).rows, News.of (hS.pick [] rfl).rows rfl, ⟨true, rfl, rfl, hv⟩⟩
    | some F19 =>
      obtain ⟨ad20, lo21, hi22, rfl, rfl⟩ := hK
      change St _ _ _ _ [.ch lo21 hi22 (fun wz => GFX lo21 hi22 wz ad20 F19), .row 24 3 (some ⟨g11, 0, none⟩) 1 1 [.int .i64 Pf, .int .i64 Mf, .slice Af mf.length kf]] at hS
      refine WL.assign rfl rfl ?_
      refine WL.done ?_
      refine W.seq ?_
      refine W.seq ?_
      refine W.region ?_
      refine WL.move rfl rfl ?_
      refine WL.eqlPn Try.underlying26 rfl rfl rfl rfl ?_
      refine WL.move rfl rfl ?_
      refine WL.take rfl ?_
      refine WL.move rfl rfl ?_
      refine WL.take rfl ?_
      refine WL.move rfl rfl ?_
      refine WL.take rfl ?_
      refine SL.lit1 (vs := [.slice Ap p.length kp, .slice At t.length kt]) hS Try.underlying37 Try.el22 rfl rfl rfl rfl (by simp [Value.oneCell']) rfl ?_
      intro A25 w26 hS
      refine WL.take rfl ?_
      refine SL.call hS (ok_short (ls := ([p, t] : List (List Int))) ⟨_, _, (hS.rd (i := 0) rfl), ⟨⟨_, _, _, rfl, (Rd.is_m (hS.ro hp))⟩, ⟨_, _, _, rfl, (Rd.is_m (hS.ro ht))⟩, trivial⟩⟩ hv) Try.func26 rfl Try.nm26 rfl rfl ?_
      rintro _ _ w28 ⟨r29, rfl, rfl, hv⟩ hGw28 hS
      change St _ _ _ _ [.row 22 1 A25 2 2 [.slice Ap p.length kp, .slice At t.length kt], .ch lo21 hi22 (fun wz => GFX lo21 hi22 wz ad20 F19), .row 24 3 (some ⟨g11, 0, none⟩) 1 1 [.int .i64 Pf, .int .i64 Mf, .slice Af mf.length kf]] at hS
      refine WL.take rfl ?_
      refine WL.not rfl rfl ?_
      refine WL.pick rfl rfl rfl ?_
      refine WL.done ?_
      refine W.cond2 rfl (fun c30 => ?_) (fun c30 => ?_)
      · have hv := hv.1 (c30)
        refine W.seq ?_
        refine W.region ?_
        refine WL.assign rfl rfl ?_
        refine WL.done ?_
        refine W.ret ?_
        refine ⟨_, rfl, Fin.nil ?_⟩
        exact ⟨_, hS.ext, (hS.pick [] rfl).rows, News.of (hS.pick [] rfl).rows rfl, ⟨true, rfl, rfl, hv⟩⟩
      · have hv := hv.2 (c30)
        refine W.skip ?_
        refine W.seq ?_
        refine W.region ?_
        refine WL.move rfl rfl ?_
        refine WL.move rfl rfl ?_
        refine WL.move rfl rfl ?_
        refine SL.call hS (ok_bezout (GFX.gfr (hS.chunk (i := 1) rfl)) (hS.ro hp) (hS.ro ht) hv) Try.func42 rfl Try.nm42 rfl rfl ?_
        rintro _ _ w31 ⟨x32, x36, x40, A33, k34, A37, k38, A41, k42, rfl, rfl, hv⟩ hGw31 hS
        change St _ _ _ _ [.row 3 1 A33 x32.length k34 (is x32), .row 3 1 A37 x36.length k38 (is x36), .row 3 1 A41 x40.length k42 (is x40), .row 22 1 A25 2 2 [.slice Ap p.length kp, .slice At t.length kt], .ch lo21 hi22 (fun wz => GFX lo21 hi22 wz ad20 F19), .row 24 3 (some ⟨g11, 0, none⟩) 1 1 [.int .i64 Pf, .int .i64 Mf, .slice Af mf.length kf]] at hS
        refine WL.move rfl rfl ?_
        refine WL.extract rfl rfl rfl ?_
        refine WL.extract rfl rfl rfl ?_
        refine WL.extract rfl rfl rfl ?_
        refine WL.assign rfl rfl ?_
        refine WL.assign rfl rfl ?_
        refine WL.assign rfl rfl ?_
        refine WL.done ?_
        refine W.seq ?_
        refine W.region ?_
        refine WL.loadV (cs := [.int .i64 Pf, .int .i64 Mf, .slice Af mf.length kf]) Try.el24 Try.agg24 rfl rfl (Own.vcells (hS.own (i := 5) rfl)) rfl ?_
        refine WL.move rfl rfl ?_
        refine WL.move rfl rfl ?_
        refine SL.call hS (ok_rgcd (hS.ro hf) (hS.ro hp) (hS.ro ht) hv) Try.func43 rfl Try.nm43 rfl rfl ?_
        rintro _ _ w44 ⟨x45, A46, k47, rfl, rfl, hv⟩ hGw44 hS
        change St _ _ _ _ [.row 3 1 A46 x45.length k47 (is x45), .row 3 1 A33 x32.length k34 (is x32), .row 3 1 A37 x36.length k38 (is x36), .row 3 1 A41 x40.length k42 (is x40), .row 22 1 A25 2 2 [.slice Ap p.length kp, .slice At t.length kt], .ch lo21 hi22 (fun wz => GFX lo21 hi22 wz ad20 F19), .row 24 3 (some ⟨g11, 0, none⟩) 1 1 [.int .i64 Pf, .int .i64 Mf, .slice Af mf.length kf]] at hS
        refine WL.assign rfl rfl ?_
        refine WL.done ?_
        refine W.seq ?_
        obtain ⟨x54, o61, hv⟩ := hv
        obtain ⟨x66, o73, hv⟩ := hv
        obtain ⟨x75, o82, hv⟩ := hv
        have hS0 := hS
        refine W.drawX 11 (fun iA => [false, false, false, false, true, false, false, false, true, true, false].getD iA false) (fun iC => match iC with | 10 => some 9 | _ => none) [⟨[], [3], false⟩, ⟨[], [3], false⟩, ⟨[], [9], true⟩, ⟨[], [1], true⟩, ⟨[1, 2, 3], [], false⟩, ⟨[], [3], false⟩, ⟨[], [10], true⟩, ⟨[], [2], true⟩, ⟨[5, 6, 7], [], false⟩, ⟨[0, 4, 8], [], false⟩, ⟨[9], [], true⟩] [[(3, .pointer (some ⟨g11, 0, none⟩))], [(3, .pointer (some ⟨g11, 0, none⟩))], [(9, .slice A37 x36.length k38)], [(1, .slice Ap p.length kp)], [], [(3, .pointer (some ⟨g11, 0, none⟩))], [(10, .slice A41 x40.length k42)], [(2, .slice At t.length kt)], [], [], []] (fun iQ => [fun v _ => v = .agg #[.int .i64 Pf, .int .i64 Mf, .slice Af mf.length kf], fun v _ => v = .agg #[.int .i64 Pf, .int .i64 Mf, .slice Af mf.length kf], fun v _ => v = .slice A37 x36.length k38, fun v _ => v = .slice Ap p.length kp, fun v wQ => ∃ A55_4 k56_4, v = .slice A55_4 x54.length k56_4 ∧ Own 0 wQ 3 1 A55_4 x54.length k56_4 (is x54) ∧ (∀ g, bl A55_4 = some g → w44.heap.size ≤ g), fun v _ => v = .agg #[.int .i64 Pf, .int .i64 Mf, .slice Af mf.length kf], fun v _ => v = .slice A41 x40.length k42, fun v _ => v = .slice At t.length kt, fun v wQ => ∃ A67_8 k68_8, v = .slice A67_8 x66.length k68_8 ∧ Own 0 wQ 3 1 A67_8 x66.length k68_8 (is x66) ∧ (∀ g, bl A67_8 = some g → w44.heap.size ≤ g), fun v wQ => ∃ A76_9 k77_9, v = .slice A76_9 x75.length k77_9 ∧ Own 0 wQ 3 1 A76_9 x75.length k77_9 (is x75) ∧ (∀ g, bl A76_9 = some g → w44.heap.size ≤ g), fun v wQ => ∃ A76_9_10 k77_9_10, v = .slice A76_9_10 x75.length k77_9_10 ∧ Own 0 wQ 3 1 A76_9_10 x75.length k77_9_10 (is x75) ∧ (∀ g, bl A76_9_10 = some g → w44.heap.size ≤ g)].getD iQ (fun _ _ => True)) Try.mixed (by kernel_rfl) ?_ (by kernel_rfl) ?_ ?_
        · refine Vs_monoT _ ?_
          intro VQ hVQ vQ wQ1 wQ2 hQ1 hQ2
          simp only [List.mem_cons, List.not_mem_nil, or_false] at hVQ
          rcases hVQ with rfl | rfl | rfl | rfl | rfl | rfl | rfl | rfl | rfl | rfl | rfl
          · exact hQ1
          · exact hQ1
          · exact hQ1
          · exact hQ1
          · obtain ⟨A55_4, k56_4, hQe, hO59_4, hN60_4⟩ := hQ1
            exact ⟨A55_4, k56_4, hQe, hO59_4.ext hQ2, hN60_4⟩
          · exact hQ1
          · exact hQ1
          · exact hQ1
          · obtain ⟨A67_8, k68_8, hQe, hO71_8, hN72_8⟩ := hQ1
            exact ⟨A67_8, k68_8, hQe, hO71_8.ext hQ2, hN72_8⟩
          · obtain ⟨A76_9, k77_9, hQe, hO80_9, hN81_9⟩ := hQ1
            exact ⟨A76_9, k77_9, hQe, hO80_9.ext hQ2, hN81_9⟩
          · obtain ⟨A76_9_10, k77_9_10, hQe, hO80_9_10, hN81_9_10⟩ := hQ1
            exact ⟨A76_9_10, k77_9_10, hQe, hO80_9_10.ext hQ2, hN81_9_10⟩
        · refine ⟨⟨rfl, ⟨rfl, trivial⟩, ?_⟩, ⟨rfl, ⟨rfl, trivial⟩, ?_⟩, ⟨rfl, ⟨rfl, trivial⟩, ?_⟩, ⟨rfl, ⟨rfl, trivial⟩, ?_⟩, ⟨rfl, trivial, ?_⟩, ⟨rfl, ⟨rfl, trivial⟩, ?_⟩, ⟨rfl, ⟨rfl, trivial⟩, ?_⟩, ⟨rfl, ⟨rfl, trivial⟩, ?_⟩, ⟨rfl, trivial, ?_⟩, ⟨rfl, trivial, ?_⟩, ⟨rfl, trivial, ?_⟩, trivial⟩
          · intro w49 hE
            have hE := hE rfl
            have hS := hS.grow hE
            intro RR
            refine WL.loadV (cs := [.int .i64 Pf, .int .i64 Mf, .slice Af mf.length kf]) Try.el24 Try.agg24 rfl rfl (Own.vcells (hS.own (i := 6) rfl)) rfl ?_
            exact WL.done ⟨_, rfl, ext_refl _, rfl, (fun h => absurd h (by decide)), (fun j h => by cases h)⟩
          · intro w50 hE
            have hE := hE rfl
            have hS := hS.grow hE
            intro RR
            refine WL.loadV (cs := [.int .i64 Pf, .int .i64 Mf, .slice Af mf.length kf]) Try.el24 Try.agg24 rfl rfl (Own.vcells (hS.own (i := 6) rfl)) rfl ?_
            exact WL.done ⟨_, rfl, ext_refl _, rfl, (fun h => absurd h (by decide)), (fun j h => by cases h)⟩
          · intro w51 hE
            intro RR
            refine WL.move rfl rfl ?_
            exact WL.done ⟨_, rfl, rfl, rfl, (fun h => absurd h (by decide)), (fun j h => by cases h)⟩
          · intro w52 hE
            intro RR
            refine WL.move rfl rfl ?_
            exact WL.done ⟨_, rfl, rfl, rfl, (fun h => absurd h (by decide)), (fun j h => by cases h)⟩
          · intro w53 hE
            have hE := hE rfl
            have hS := hS.grow hE
            rintro _ rfl
            rintro _ rfl
            rintro _ rfl
            intro RR
            refine WL.call Try.func31 rfl Try.nm31 rfl rfl (calls_un (ok_rpmul (hS.ro hf) (hS.rd (i := 2) rfl) (hS.ro hp) o61)) ?_
            rintro _ w58 ⟨_, hGw58, hRww58, hNww58, x54q, A55, k56, rfl, rfl, he⟩
            subst he
            have hO59 := (hRww58.get (i := 0) rfl).1
            have hN60 : ∀ g, bl A55 = some g → _ ≤ g := fun g hg => Nat.le_trans hE.size (hNww58.1 g hg)
            exact WL.done ⟨_, rfl, hGw58, ⟨A55, k56, rfl, hO59, hN60⟩, (fun _ => fun g hg => ⟨hNww58.1 g hg, (hO59.bl_ge g hg).2⟩), (fun j h => by cases h)⟩
          · intro w62 hE
            have hE := hE rfl
            have hS := hS.grow hE
            intro RR
            refine WL.loadV (cs := [.int .i64 Pf, .int .i64 Mf, .slice Af mf.length kf]) Try.el24 Try.agg24 rfl rfl (Own.vcells (hS.own (i := 6) rfl)) rfl ?_
            exact WL.done ⟨_, rfl, ext_refl _, rfl, (fun h => absurd h (by decide)), (fun j h => by cases h)⟩
          · intro w63 hE
            intro RR
            refine WL.move rfl rfl ?_
            exact WL.done ⟨_, rfl, rfl, rfl, (fun h => absurd h (by decide)), (fun j h => by cases h)⟩
          · intro w64 hE
            intro RR
            refine WL.move rfl rfl ?_
            exact WL.done ⟨_, rfl, rfl, rfl, (fun h => absurd h (by decide)), (fun j h => by cases h)⟩
          · intro w65 hE
            have hE := hE rfl
            have hS := hS.grow hE
            rintro _ rfl
            rintro _ rfl
            rintro _ rfl
            intro RR
            refine WL.call Try.func31 rfl Try.nm31 rfl rfl (calls_un (ok_rpmul (hS.ro hf) (hS.rd (i := 3) rfl) (hS.ro ht) o73)) ?_
            rintro _ w70 ⟨_, hGw70, hRww70, hNww70, x66q, A67, k68, rfl, rfl, he⟩
            subst he
            have hO71 := (hRww70.get (i := 0) rfl).1
            have hN72 : ∀ g, bl A67 = some g → _ ≤ g := fun g hg => Nat.le_trans hE.size (hNww70.1 g hg)
            exact WL.done ⟨_, rfl, hGw70, ⟨A67, k68, rfl, hO71, hN72⟩, (fun _ => fun g hg => ⟨hNww70.1 g hg, (hO71.bl_ge g hg).2⟩), (fun j h => by cases h)⟩
          · intro w74 hE
            have hE := hE rfl
            have hS := hS.grow hE
            rintro _ rfl
            rintro _ ⟨A55_4, k56_4, rfl, hO59_4, hN60_4⟩
            rintro _ ⟨A67_8, k68_8, rfl, hO71_8, hN72_8⟩
            intro RR
            refine WL.call Try.func28 rfl Try.nm28 rfl rfl (calls_un (ok_rpadd (hS.ro hf) hO59_4.rd hO71_8.rd o82)) ?_
            rintro _ w79 ⟨_, hGw79, hRww79, hNww79, x75q, A76, k77, rfl, rfl, he⟩
            subst he
            have hO80 := (hRww79.get (i := 0) rfl).1
            have hN81 : ∀ g, bl A76 = some g → _ ≤ g := fun g hg => Nat.le_trans hE.size (hNww79.1 g hg)
            exact WL.done ⟨_, rfl, hGw79, ⟨A76, k77, rfl, hO80, hN81⟩, (fun _ => fun g hg => ⟨hNww79.1 g hg, (hO80.bl_ge g hg).2⟩), (fun j h => by cases h)⟩
          · intro w83 hE
            rintro _ ⟨A76_9, k77_9, rfl, hO80_9, hN81_9⟩
            intro RR
            refine WL.assign rfl rfl ?_
            exact WL.done ⟨_, rfl, rfl, ⟨A76_9, k77_9, rfl, hO80_9, hN81_9⟩, (fun h => absurd h (by decide)), (fun j h => by cases h; rfl)⟩
        · intro vals w84 hT hVs hAp hCp
          have hS := hS.grow hT
          have hv0 : vals 0 = _ := hVs 0 (by decide)
          have hv1 : vals 1 = _ := hVs 1 (by decide)
          have hv2 : vals 2 = _ := hVs 2 (by decide)
          have hv3 : vals 3 = _ := hVs 3 (by decide)
          obtain ⟨A55_4, k56_4, hv4, hO59_4, hN60_4⟩ := hVs 4 (by decide)
          have hv5 : vals 5 = _ := hVs 5 (by decide)
          have hv6 : vals 6 = _ := hVs 6 (by decide)
          have hv7 : vals 7 = _ := hVs 7 (by decide)
          obtain ⟨A67_8, k68_8, hv8, hO71_8, hN72_8⟩ := hVs 8 (by decide)
          obtain ⟨A76_9, k77_9, hv9, hO80_9, hN81_9⟩ := hVs 9 (by decide)
          have hv10 : vals 10 = .slice A76_9 x75.length k77_9 := (hCp 10 9 (by decide) rfl).trans hv9
          have hS := St.addOwn [] hS0 hS hO80_9 hN81_9 (fun s hs => by cases hs)
          change St _ _ _ _ [.row 3 1 A76_9 x75.length k77_9 (is x75), .row 3 1 A46 x45.length k47 (is x45), .row 3 1 A33 x32.length k34 (is x32), .row 3 1 A37 x36.length k38 (is x36), .row 3 1 A41 x40.length k42 (is x40), .row 22 1 A25 2 2 [.slice Ap p.length kp, .slice At t.length kt], .ch lo21 hi22 (fun wz => GFX lo21 hi22 wz ad20 F19), .row 24 3 (some ⟨g11, 0, none⟩) 1 1 [.int .i64 Pf, .int .i64 Mf, .slice Af mf.length kf]] at hS
          rw [show (List.filterMap (fun i => Option.map (fun t => (t, vals i)) (dstAt _ i)) (List.range _)) = [(40, .agg #[.int .i64 Pf, .int .i64 Mf, .slice Af mf.length kf]), (41, .agg #[.int .i64 Pf, .int .i64 Mf, .slice Af mf.length kf]), (42, .slice A37 x36.length k38), (43, .slice Ap p.length kp), (44, .slice A55_4 x54.length k56_4), (45, .agg #[.int .i64 Pf, .int .i64 Mf, .slice Af mf.length kf]), (46, .slice A41 x40.length k42), (47, .slice At t.length kt), (48, .slice A67_8 x66.length k68_8), (49, .slice A76_9 x75.length k77_9), (12, .slice A76_9 x75.length k77_9)] from by
            show [(40, vals 0), (41, vals 1), (42, vals 2), (43, vals 3), (44, vals 4), (45, vals 5), (46, vals 6), (47, vals 7), (48, vals 8), (49, vals 9), (12, vals 10)] = _
            rw [hv0, hv1, hv2, hv3, hv4, hv5, hv6, hv7, hv8, hv9, hv10]]
          refine WA.done (by decide +kernel) ?_
          refine W.seq ?_
          refine W.seq ?_
          refine W.region ?_
          refine WL.move rfl rfl ?_
          refine WL.move rfl rfl ?_
          refine SL.call hS (ok_lsame (hS.rd (i := 2) rfl) (hS.rd (i := 1) rfl) hv) Try.func23 rfl Try.nm23 rfl rfl ?_
          rintro _ _ w86 ⟨r87, rfl, rfl, hv⟩ hGw86 hS
          change St _ _ _ _ [.row 3 1 A76_9 x75.length k77_9 (is x75), .row 3 1 A46 x45.length k47 (is x45), .row 3 1 A33 x32.length k34 (is x32), .row 3 1 A37 x36.length k38 (is x36), .row 3 1 A41 x40.length k42 (is x40), .row 22 1 A25 2 2 [.slice Ap p.length kp, .slice At t.length kt], .ch lo21 hi22 (fun wz => GFX lo21 hi22 wz ad20 F19), .row 24 3 (some ⟨g11, 0, none⟩) 1 1 [.int .i64 Pf, .int .i64 Mf, .slice Af mf.length kf]] at hS
          refine WL.not rfl rfl ?_
          refine WL.move rfl rfl ?_
          rcases g88 : (!r87) with _ | _
          · have hv := hv.2 g88
            refine WL.take rfl ?_
            refine WL.move rfl rfl ?_
            refine WL.take rfl ?_
            refine WL.move rfl rfl ?_
            refine WL.take rfl ?_
            refine SL.call hS (ok_lsame (hS.rd (i := 0) rfl) (hS.rd (i := 1) rfl) hv) Try.func23 rfl Try.nm23 rfl rfl ?_
            rintro _ _ w89 ⟨r90, rfl, rfl, hv⟩ hGw89 hS
            change St _ _ _ _ [.row 3 1 A76_9 x75.length k77_9 (is x75), .row 3 1 A46 x45.length k47 (is x45), .row 3 1 A33 x32.length k34 (is x32), .row 3 1 A37 x36.length k38 (is x36), .row 3 1 A41 x40.length k42 (is x40), .row 22 1 A25 2 2 [.slice Ap p.length kp, .slice At t.length kt], .ch lo21 hi22 (fun wz => GFX lo21 hi22 wz ad20 F19), .row 24 3 (some ⟨g11, 0, none⟩) 1 1 [.int .i64 Pf, .int .i64 Mf, .slice Af mf.length kf]] at hS
            refine WL.take rfl ?_
            refine WL.not rfl rfl ?_
            refine WL.pick rfl rfl rfl ?_
            refine WL.move rfl rfl ?_
            rcases g91 : (!r90) with _ | _
            · have hv := hv.2 g91
              refine WL.take rfl ?_
              refine WL.move rfl rfl ?_
              refine WL.take rfl ?_
              refine WL.loadV (cs := [.int .i64 Pf, .int .i64 Mf, .slice Af mf.length kf]) Try.el24 Try.agg24 rfl rfl (Own.vcells (hS.own (i := 7) rfl)) rfl ?_
              refine WL.take rfl ?_
              refine WL.move rfl rfl ?_
              refine WL.take rfl ?_
              refine SL.call hS (ok_rcanon (hS.ro hf) (hS.rd (i := 3) rfl) hv) Try.func24 rfl Try.nm24 rfl rfl ?_
              rintro _ _ w92 ⟨x93, A94, k95, rfl, rfl, hv⟩ hGw92 hS
              change St _ _ _ _ [.row 3 1 A94 x93.length k95 (is x93), .row 3 1 A76_9 x75.length k77_9 (is x75), .row 3 1 A46 x45.length k47 (is x45), .row 3 1 A33 x32.length k34 (is x32), .row 3 1 A37 x36.length k38 (is x36), .row 3 1 A41 x40.length k42 (is x40), .row 22 1 A25 2 2 [.slice Ap p.length kp, .slice At t.length kt], .ch lo21 hi22 (fun wz => GFX lo21 hi22 wz ad20 F19), .row 24 3 (some ⟨g11, 0, none⟩) 1 1 [.int .i64 Pf, .int .i64 Mf, .slice Af mf.length kf]] at hS
              refine WL.take rfl ?_
              refine SL.call hS (ok_lsame (hS.rd (i := 4) rfl) (hS.rd (i := 0) rfl) hv) Try.func23 rfl Try.nm23 rfl rfl ?_
              rintro _ _ w97 ⟨r98, rfl, rfl, hv⟩ hGw97 hS
              change St _ _ _ _ [.row 3 1 A94 x93.length k95 (is x93), .row 3 1 A76_9 x75.length k77_9 (is x75), .row 3 1 A46 x45.length k47 (is x45), .row 3 1 A33 x32.length k34 (is x32), .row 3 1 A37 x36.length k38 (is x36), .row 3 1 A41 x40.length k42 (is x40), .row 22 1 A25 2 2 [.slice Ap p.length kp, .slice At t.length kt], .ch lo21 hi22 (fun wz => GFX lo21 hi22 wz ad20 F19), .row 24 3 (some ⟨g11, 0, none⟩) 1 1 [.int .i64 Pf, .int .i64 Mf, .slice Af mf.length kf]] at hS
              refine WL.take rfl ?_
              refine WL.not rfl rfl ?_
              refine WL.pick rfl rfl rfl ?_
              refine WL.move rfl rfl ?_
              rcases g99 : (!r98) with _ | _
              · have hv := hv.2 g99
                refine WL.take rfl ?_
                refine WL.move rfl rfl ?_
                refine WL.take rfl ?_
                refine WL.loadV (cs := [.int .i64 Pf, .int .i64 Mf, .slice Af mf.length kf]) Try.el24 Try.agg24 rfl rfl (Own.vcells (hS.own (i := 8) rfl)) rfl ?_
                refine WL.take rfl ?_
                refine WL.move rfl rfl ?_
                refine WL.take rfl ?_
                refine SL.call hS (ok_rcanon (hS.ro hf) (hS.rd (i := 5) rfl) hv) Try.func24 rfl Try.nm24 rfl rfl ?_
                rintro _ _ w100 ⟨x101, A102, k103, rfl, rfl, hv⟩ hGw100 hS
                change St _ _ _ _ [.row 3 1 A102 x101.length k103 (is x101), .row 3 1 A94 x93.length k95 (is x93), .row 3 1 A76_9 x75.length k77_9 (is x75), .row 3 1 A46 x45.length k47 (is x45), .row 3 1 A33 x32.length k34 (is x32), .row 3 1 A37 x36.length k38 (is x36), .row 3 1 A41 x40.length k42 (is x40), .row 22 1 A25 2 2 [.slice Ap p.length kp, .slice At t.length kt], .ch lo21 hi22 (fun wz => GFX lo21 hi22 wz ad20 F19), .row 24 3 (some ⟨g11, 0, none⟩) 1 1 [.int .i64 Pf, .int .i64 Mf, .slice Af mf.length kf]] at hS
                refine WL.take rfl ?_
                refine SL.call hS (ok_lsame (hS.rd (i := 6) rfl) (hS.rd (i := 0) rfl) hv) Try.func23 rfl Try.nm23 rfl rfl ?_
                rintro _ _ w105 ⟨r106, rfl, rfl, hv⟩ hGw105 hS
                change St _ _ _ _ [.row 3 1 A102 x101.length k103 (is x101), .row 3 1 A94 x93.length k95 (is x93), .row 3 1 A76_9 x75.length k77_9 (is x75), .row 3 1 A46 x45.length k47 (is x45), .row 3 1 A33 x32.length k34 (is x32), .row 3 1 A37 x36.length k38 (is x36), .row 3 1 A41 x40.length k42 (is x40), .row 22 1 A25 2 2 [.slice Ap p.length kp, .slice At t.length kt], .ch lo21 hi22 (fun wz => GFX lo21 hi22 wz ad20 F19), .row 24 3 (some ⟨g11, 0, none⟩) 1 1 [.int .i64 Pf, .int .i64 Mf, .slice Af mf.length kf]] at hS
                refine WL.take rfl ?_
                refine WL.not rfl rfl ?_
                refine WL.pick rfl rfl rfl ?_
                refine WL.done ?_
                refine W.cond2 rfl (fun c107 => ?_) (fun c107 => ?_)
                · have hv := hv.1 (c107)
                  refine W.seq ?_
                  refine W.region ?_
                  refine WL.assign rfl rfl ?_
                  refine WL.done ?_
                  refine W.ret ?_
                  refine ⟨_, rfl, Fin.nil ?_⟩
                  exact ⟨_, hS.ext, (hS.pick [] rfl).rows, News.of (hS.pick [] rfl).rows rfl, ⟨false, rfl, rfl, hv⟩⟩
                · have hv := hv.2 (c107)
                  refine W.skip ?_
                  refine W.seq ?_
                  obtain ⟨r111, o113, hv⟩ := hv
                  obtain ⟨r117, o119, hv⟩ := hv
                  have hS0 := hS
                  refine W.drawX 8 (fun _ => false) (fun _ => none) [⟨[], [3], false⟩, ⟨[], [1], true⟩, ⟨[0, 1], [], false⟩, ⟨[], [3], false⟩, ⟨[], [2], true⟩, ⟨[3, 4], [], false⟩, ⟨[2], [], true⟩, ⟨[5], [], true⟩] [[(3, .pointer (some ⟨g11, 0, none⟩))], [(1, .slice Ap p.length kp)], [], [(3, .pointer (some ⟨g11, 0, none⟩))], [(2, .slice At t.length kt)], [], [], []] (fun iQ => [fun v _ => v = .agg #[.int .i64 Pf, .int .i64 Mf, .slice Af mf.length kf], fun v _ => v = .slice Ap p.length kp, fun v _ => v = .int .i64 r111, fun v _ => v = .agg #[.int .i64 Pf, .int .i64 Mf, .slice Af mf.length kf], fun v _ => v = .slice At t.length kt, fun v _ => v = .int .i64 r117, fun v _ => v = .int .i64 r111, fun v _ => v = .int .i64 r117].getD iQ (fun _ _ => True)) Try.mixed (by kernel_rfl) ?_ (by kernel_rfl) ?_ ?_
                  · refine Vs_monoT _ ?_
                    intro VQ hVQ vQ wQ1 wQ2 hQ1 hQ2
                    simp only [List.mem_cons, List.not_mem_nil, or_false] at hVQ
                    rcases hVQ with rfl | rfl | rfl | rfl | rfl | rfl | rfl | rfl
                    · exact hQ1
                    · exact hQ1
                    · exact hQ1
                    · exact hQ1
                    · exact hQ1
                    · exact hQ1
                    · exact hQ1
                    · exact hQ1
                  · refine ⟨⟨rfl, ⟨rfl, trivial⟩, ?_⟩, ⟨rfl, ⟨rfl, trivial⟩, ?_⟩, ⟨rfl, trivial, ?_⟩, ⟨rfl, ⟨rfl, trivial⟩, ?_⟩, ⟨rfl, ⟨rfl, trivial⟩, ?_⟩, ⟨rfl, trivial, ?_⟩, ⟨rfl, trivial, ?_⟩, ⟨rfl, trivial, ?_⟩, trivial⟩
                    · intro w108 hE
                      have hE := hE rfl
                      have hS := hS.grow hE
                      intro RR
                      refine WL.loadV (cs := [.int .i64 Pf, .int .i64 Mf, .slice Af mf.length kf]) Try.el24 Try.agg24 rfl rfl (Own.vcells (hS.own (i := 9) rfl)) rfl ?_
                      exact WL.done ⟨_, rfl, ext_refl _, rfl, (fun h => absurd h (by decide)), (fun j h => by cases h)⟩
                    · intro w109 hE
                      intro RR
                      refine WL.move rfl rfl ?_
                      exact WL.done ⟨_, rfl, rfl, rfl, (fun h => absurd h (by decide)), (fun j h => by cases h)⟩
                    · intro w110 hE
                      have hE := hE rfl
                      have hS := hS.grow hE
                      rintro _ rfl
                      rintro _ rfl
                      intro RR
                      refine WL.call Try.func38 rfl Try.nm38 rfl rfl (calls_un (ok_rdeg (hS.ro hf) (hS.ro hp) o113)) ?_
                      rintro _ w112 ⟨_, hGw112, hRww112, hNww112, r111q, rfl, rfl, he⟩
                      subst he
                      exact WL.done ⟨_, rfl, hGw112, rfl, (fun h => absurd h (by decide)), (fun j h => by cases h)⟩
                    · intro w114 hE
                      have hE := hE rfl
                      have hS := hS.grow hE
                      intro RR
                      refine WL.loadV (cs := [.int .i64 Pf, .int .i64 Mf, .slice Af mf.length kf]) Try.el24 Try.agg24 rfl rfl (Own.vcells (hS.own (i := 9) rfl)) rfl ?_
                      exact WL.done ⟨_, rfl, ext_refl _, rfl, (fun h => absurd h (by decide)), (fun j h => by cases h)⟩
                    · intro w115 hE
                      intro RR
                      refine WL.move rfl rfl ?_
                      exact WL.done ⟨_, rfl, rfl, rfl, (fun h => absurd h (by decide)), (fun j h => by cases h)⟩
                    · intro w116 hE
                      have hE := hE rfl
                      have hS := hS.grow hE
                      rintro _ rfl
                      rintro _ rfl
                      intro RR
                      refine WL.call Try.func38 rfl Try.nm38 rfl rfl (calls_un (ok_rdeg (hS.ro hf) (hS.ro ht) o119)) ?_
                      rintro _ w118 ⟨_, hGw118, hRww118, hNww118, r117q, rfl, rfl, he⟩
                      subst he
                      exact WL.done ⟨_, rfl, hGw118, rfl, (fun h => absurd h (by decide)), (fun j h => by cases h)⟩
                    · intro w120 hE
                      rintro _ rfl
                      intro RR
                      refine WL.assign rfl rfl ?_
                      exact WL.done ⟨_, rfl, rfl, rfl, (fun h => absurd h (by decide)), (fun j h => by cases h)⟩
                    · intro w121 hE
                      rintro _ rfl
                      intro RR
                      refine WL.assign rfl rfl ?_
                      exact WL.done ⟨_, rfl, rfl, rfl, (fun h => absurd h (by decide)), (fun j h => by cases h)⟩
                  · intro vals w122 hT hVs hAp hCp
                    have hS := hS.grow hT
                    have hv0 : vals 0 = _ := hVs 0 (by decide)
                    have hv1 : vals 1 = _ := hVs 1 (by decide)
                    have hv2 : vals 2 = _ := hVs 2 (by decide)
                    have hv3 : vals 3 = _ := hVs 3 (by decide)
                    have hv4 : vals 4 = _ := hVs 4 (by decide)
                    have hv5 : vals 5 = _ := hVs 5 (by decide)
                    have hv6 : vals 6 = _ := hVs 6 (by decide)
                    have hv7 : vals 7 = _ := hVs 7 (by decide)
                    rw [show (List.filterMap (fun i => Option.map (fun t => (t, vals i)) (dstAt _ i)) (List.range _)) = [(76, .agg #[.int .i64 Pf, .int .i64 Mf, .slice Af mf.length kf]), (77, .slice Ap p.length kp), (78, .int .i64 r111), (79, .agg #[.int .i64 Pf, .int .i64 Mf, .slice Af mf.length kf]), (80, .slice At t.length kt), (81, .int .i64 r117), (13, .int .i64 r111), (14, .int .i64 r117)] from by
                      show [(76, vals 0), (77, vals 1), (78, vals 2), (79, vals 3), (80, vals 4), (81, vals 5), (13, vals 6), (14, vals 7)] = _
                      rw [hv0, hv1, hv2, hv3, hv4, hv5, hv6, hv7]]
                    refine WA.done (by decide +kernel) ?_
                    refine W.seq ?_
                    obtain ⟨J123, hv, hk135⟩ := hv
                    refine W.cutN (σ := Unit) (fun _ w1 => J123 ∧ St TT w none w1 [.row 3 1 A102 x101.length k103 (is x101), .row 3 1 A94 x93.length k95 (is x93), .row 3 1 A76_9 x75.length k77_9 (is x75), .row 3 1 A46 x45.length k47 (is x45), .row 3 1 A33 x32.length k34 (is x32), .row 3 1 A37 x36.length k38 (is x36), .row 3 1 A41 x40.length k42 (is x40), .row 22 1 A25 2 2 [.slice Ap p.length kp, .slice At t.length kt], .ch lo21 hi22 (fun wz => GFX lo21 hi22 wz ad20 F19), .row 24 3 (some ⟨g11, 0, none⟩) 1 1 [.int .i64 Pf, .int .i64 Mf, .slice Af mf.length kf]]) (fun _ => [(6, .bool false), (9, .slice A37 x36.length k38), (11, .slice A46 x45.length k47), (14, .int .i64 r117)]) ?_ ?_
                    · refine W.block ?_
                      refine W.seq ?_
                      refine W.region ?_
                      refine WL.move rfl rfl ?_
                      refine WL.lssD rfl rfl rfl ?_
                      refine WL.move rfl rfl ?_
                      by_cases g124 : r111 < (0 : Int)
                      · have hv := hv.1 g124
                        rw [decide_eq_true g124]
                        refine WL.take rfl ?_
                        refine WL.move rfl rfl ?_
                        refine WL.take rfl ?_
                        refine WL.lssD rfl rfl rfl ?_
                        refine WL.pick rfl rfl rfl ?_
                        refine WL.assign rfl rfl ?_
                        refine WL.done ?_
                        refine W.cond2 rfl (fun c125 => ?_) (fun c125 => ?_)
                        · have hv := hv.1 (of_decide_eq_true c125)
                          refine W.seq ?_
                          refine W.region ?_
                          refine WL.move rfl rfl ?_
                          refine WL.len Try.underlying22 rfl rfl ?_
                          refine WL.eqlD rfl rfl rfl ?_
                          refine WL.move rfl rfl ?_
                          by_cases g126 : ((x36.length : Nat) : Int) = (0 : Int)
                          · have hv := hv.1 g126
                            rw [decide_eq_true g126]
                            refine WL.take rfl ?_
                            refine WL.move rfl rfl ?_
                            refine WL.take rfl ?_
                            refine WL.len Try.underlying22 rfl rfl ?_
                            refine WL.take rfl ?_
                            refine WL.eqlD rfl rfl rfl ?_
                            refine WL.pick rfl rfl rfl ?_
                            refine WL.assign rfl rfl ?_
                            refine WL.done ?_
                            refine W.ret ?_
                            refine ⟨_, rfl, Fin.nil ?_⟩
                            exact ⟨_, hS.ext, (hS.pick [] rfl).rows, News.of (hS.pick [] rfl).rows rfl, ⟨(decide (((x40.length : Nat) : Int) = (0 : Int))), rfl, rfl, hv⟩⟩
                          · have hv := hv.2 g126
                            rw [decide_eq_false g126]
                            refine WL.pass rfl rfl rfl ?_
                            refine WL.pass rfl rfl rfl ?_
                            refine WL.pass rfl rfl rfl ?_
                            refine WL.pick rfl rfl rfl ?_
                            refine WL.assign rfl rfl ?_
                            refine WL.done ?_
                            refine W.ret ?_
                            refine ⟨_, rfl, Fin.nil ?_⟩
                            exact ⟨_, hS.ext, (hS.pick [] rfl).rows, News.of (hS.pick [] rfl).rows rfl, ⟨false, rfl, rfl, hv⟩⟩
                        · have hv := hv.2 (of_decide_eq_false c125)
                          refine W.seq ?_
                          refine W.region ?_
                          refine WL.move rfl rfl ?_
                          refine WL.lssD rfl rfl rfl ?_
                          refine WL.assign rfl rfl ?_
                          refine WL.done ?_
                          refine W.cond2 rfl (fun c127 => ?_) (fun c127 => ?_)
                          · have hv := hv.1 (of_decide_eq_true c127)
                            refine W.seq ?_
                            refine W.region ?_
                            refine WL.move rfl rfl ?_
                            refine WL.len Try.underlying22 rfl rfl ?_
                            refine WL.eqlD rfl rfl rfl ?_
                            refine WL.move rfl rfl ?_
                            by_cases g128 : ((x36.length : Nat) : Int) = (1 : Int)
                            · have hv := hv.1 g128
                              rw [decide_eq_true g128]
                              refine WL.take rfl ?_
                              refine WL.move rfl rfl ?_
                              refine WL.take rfl ?_
                              refine WL.len Try.underlying22 rfl rfl ?_
                              refine WL.take rfl ?_
                              refine WL.eqlD rfl rfl rfl ?_
                              refine WL.pick rfl rfl rfl ?_
                              refine WL.assign rfl rfl ?_
                              refine WL.done ?_
                              refine W.ret ?_
                              refine ⟨_, rfl, Fin.nil ?_⟩
                              exact ⟨_, hS.ext, (hS.pick [] rfl).rows, News.of (hS.pick [] rfl).rows rfl, ⟨(decide (((x40.length : Nat) : Int) = (0 : Int))), rfl, rfl, hv⟩⟩
                            · have hv := hv.2 g128
                              rw [decide_eq_false g128]
                              refine WL.pass rfl rfl rfl ?_
                              refine WL.pass rfl rfl rfl ?_
                              refine WL.pass rfl rfl rfl ?_
                              refine WL.pick rfl rfl rfl ?_
                              refine WL.assign rfl rfl ?_
                              refine WL.done ?_
                              refine W.ret ?_
                              refine ⟨_, rfl, Fin.nil ?_⟩
                              exact ⟨_, hS.ext, (hS.pick [] rfl).rows, News.of (hS.pick [] rfl).rows rfl, ⟨false, rfl, rfl, hv⟩⟩
                          · have hv := hv.2 (of_decide_eq_false c127)
                            refine W.skip ?_
                            change St _ _ _ _ [.row 3 1 A102 x101.length k103 (is x101), .row 3 1 A94 x93.length k95 (is x93), .row 3 1 A76_9 x75.length k77_9 (is x75), .row 3 1 A46 x45.length k47 (is x45), .row 3 1 A33 x32.length k34 (is x32), .row 3 1 A37 x36.length k38 (is x36), .row 3 1 A41 x40.length k42 (is x40), .row 22 1 A25 2 2 [.slice Ap p.length kp, .slice At t.length kt], .ch lo21 hi22 (fun wz => GFX lo21 hi22 wz ad20 F19), .row 24 3 (some ⟨g11, 0, none⟩) 1 1 [.int .i64 Pf, .int .i64 Mf, .slice Af mf.length kf]] at hS
                            exact ⟨(), ⟨rfl, rfl, rfl, rfl, trivial⟩, rfl, hv, hS⟩
                      · have hv := hv.2 g124
                        rw [decide_eq_false g124]
                        refine WL.pass rfl rfl rfl ?_
                        refine WL.pass rfl rfl rfl ?_
                        refine WL.pick rfl rfl rfl ?_
                        refine WL.assign rfl rfl ?_
                        refine WL.done ?_
                        refine W.condF rfl ?_
                        refine W.seq ?_
                        refine W.region ?_
                        refine WL.move rfl rfl ?_
                        refine WL.lssD rfl rfl rfl ?_
                        refine WL.assign rfl rfl ?_
                        refine WL.done ?_
                        refine W.cond2 rfl (fun c129 => ?_) (fun c129 => ?_)
                        · have hv := hv.1 (of_decide_eq_true c129)
                          refine W.seq ?_
                          refine W.region ?_
                          refine WL.move rfl rfl ?_
                          refine WL.len Try.underlying22 rfl rfl ?_
                          refine WL.eqlD rfl rfl rfl ?_
                          refine WL.move rfl rfl ?_
                          by_cases g130 : ((x36.length : Nat) : Int) = (1 : Int)
                          · have hv := hv.1 g130
                            rw [decide_eq_true g130]
                            refine WL.take rfl ?_
                            refine WL.move rfl rfl ?_
                            refine WL.take rfl ?_
                            refine WL.len Try.underlying22 rfl rfl ?_
                            refine WL.take rfl ?_
                            refine WL.eqlD rfl rfl rfl ?_
                            refine WL.pick rfl rfl rfl ?_
                            refine WL.assign rfl rfl ?_
                            refine WL.done ?_
                            refine W.ret ?_
                            refine ⟨_, rfl, Fin.nil ?_⟩
                            exact ⟨_, hS.ext, (hS.pick [] rfl).rows, News.of (hS.pick [] rfl).rows rfl, ⟨(decide (((x40.length : Nat) : Int) = (0 : Int))), rfl, rfl, hv⟩⟩
                          · have hv := hv.2 g130
                            rw [decide_eq_false g130]
                            refine WL.pass rfl rfl rfl ?_
                            refine WL.pass rfl rfl rfl ?_
                            refine WL.pass rfl rfl rfl ?_
                            refine WL.pick rfl rfl rfl ?_
                            refine WL.assign rfl rfl ?_
                            refine WL.done ?_
                            refine W.ret ?_
                            refine ⟨_, rfl, Fin.nil ?_⟩
                            exact ⟨_, hS.ext, (hS.pick [] rfl).rows, News.of (hS.pick [] rfl).rows rfl, ⟨false, rfl, rfl, hv⟩⟩
                        · have hv := hv.2 (of_decide_eq_false c129)
                          refine W.skip ?_
                          change St _ _ _ _ [.row 3 1 A102 x101.length k103 (is x101), .row 3 1 A94 x93.length k95 (is x93), .row 3 1 A76_9 x75.length k77_9 (is x75), .row 3 1 A46 x45.length k47 (is x45), .row 3 1 A33 x32.length k34 (is x32), .row 3 1 A37 x36.length k38 (is x36), .row 3 1 A41 x40.length k42 (is x40), .row 22 1 A25 2 2 [.slice Ap p.length kp, .slice At t.length kt], .ch lo21 hi22 (fun wz => GFX lo21 hi22 wz ad20 F19), .row 24 3 (some ⟨g11, 0, none⟩) 1 1 [.int .i64 Pf, .int .i64 Mf, .slice Af mf.length kf]] at hS
                          exact ⟨(), ⟨rfl, rfl, rfl, rfl, trivial⟩, rfl, hv, hS⟩
                    · rintro _ w131 ⟨hv, hS⟩
                      have hv := hk135  hv
                      refine W.seq ?_
                      refine W.region ?_
                      refine WL.move rfl rfl ?_
                      refine WL.len Try.underlying22 rfl rfl ?_
                      obtain ⟨o132, hv⟩ := hv
                      refine WL.sub (r := (((x36.length : Nat) : Int) - (1 : Int))) rfl rfl (wr o132) rfl ?_
                      refine WL.move rfl rfl ?_
                      refine WL.move rfl rfl ?_
                      refine WL.len Try.underlying22 rfl rfl ?_
                      obtain ⟨o133, hv⟩ := hv
                      refine WL.sub (r := (((x45.length : Nat) : Int) - (1 : Int))) rfl rfl (wr o133) rfl ?_
                      obtain ⟨o134, hv⟩ := hv
                      refine WL.sub (r := (r117 - (((x45.length : Nat) : Int) - (1 : Int)))) rfl rfl (wr o134) rfl ?_
                      refine WL.max2 (r := (max (r117 - (((x45.length : Nat) : Int) - (1 : Int))) (0 : Int))) rfl rfl rfl rfl ?_
                      refine WL.lssD rfl rfl rfl ?_
                      refine WL.assign rfl rfl ?_
                      refine WL.done ?_
                      refine W.ret ?_
                      refine ⟨_, rfl, Fin.nil ?_⟩
                      exact ⟨_, hS.ext, (hS.pick [] rfl).rows, News.of (hS.pick [] rfl).rows rfl, ⟨(decide ((((x36.length : Nat) : Int) - (1 : Int)) < (max (r117 - (((x45.length : Nat) : Int) - (1 : Int))) (0 : Int)))), rfl, rfl, hv⟩⟩
              · have hv := hv.1 g99
                refine WL.pass rfl rfl rfl ?_
                refine WL.pass rfl rfl rfl ?_
                refine WL.pass rfl rfl rfl ?_
                refine WL.pass rfl rfl rfl ?_
                refine WL.pass rfl rfl rfl ?_
                refine WL.pass rfl rfl rfl ?_
                refine WL.pick rfl rfl rfl ?_
                refine WL.done ?_
                refine W.condT rfl ?_
                refine W.seq ?_
                refine W.region ?_
                refine WL.assign rfl rfl ?_
                refine WL.done ?_
                refine W.ret ?_
                refine ⟨_, rfl, Fin.nil ?_⟩
                exact ⟨_, hS.ext, (hS.pick [] rfl).rows, News.of (hS.pick [] rfl).rows rfl, ⟨false, rfl, rfl, hv⟩⟩
            · have hv := hv.1 g91
              refine WL.pass rfl rfl rfl ?_
              refine WL.pass rfl rfl rfl ?_
              refine WL.pass rfl rfl rfl ?_
              refine WL.pass rfl rfl rfl ?_
              refine WL.pass rfl rfl rfl ?_
              refine WL.pass rfl rfl rfl ?_
              refine WL.pick rfl rfl rfl ?_
              refine WL.move rfl rfl ?_
              refine WL.pass rfl rfl rfl ?_
              refine WL.pass rfl rfl rfl ?_
              refine WL.pass rfl rfl rfl ?_
              refine WL.pass rfl rfl rfl ?_
              refine WL.pass rfl rfl rfl ?_
              refine WL.pass rfl rfl rfl ?_
              refine WL.pick rfl rfl rfl ?_
              refine WL.done ?_
              refine W.condT rfl ?_
              refine W.seq ?_
              refine W.region ?_
              refine WL.assign rfl rfl ?_
              refine WL.done ?_
              refine W.ret ?_
              refine ⟨_, rfl, Fin.nil ?_⟩
              exact ⟨_, hS.ext, (hS.pick [] rfl).rows, News.of (hS.pick [] rfl).rows rfl, ⟨false, rfl, rfl, hv⟩⟩
          · have hv := hv.1 g88
            refine WL.pass rfl rfl rfl ?_
            refine WL.pass rfl rfl rfl ?_
            refine WL.pass rfl rfl rfl ?_
            refine WL.pass rfl rfl rfl ?_
            refine WL.pick rfl rfl rfl ?_
            refine WL.move rfl rfl ?_
            refine WL.pass rfl rfl rfl ?_
            refine WL.pass rfl rfl rfl ?_
            refine WL.pass rfl rfl rfl ?_
            refine WL.pass rfl rfl rfl ?_
            refine WL.pass rfl rfl rfl ?_
            refine WL.pass rfl rfl rfl ?_
            refine WL.pick rfl rfl rfl ?_
            refine WL.move rfl rfl ?_
            refine WL.pass rfl rfl rfl ?_
            refine WL.pass rfl rfl rfl ?_
            refine WL.pass rfl rfl rfl ?_
            refine WL.pass rfl rfl rfl ?_
            refine WL.pass rfl rfl rfl ?_
            refine WL.pass rfl rfl rfl ?_
            refine WL.pick rfl rfl rfl ?_
            refine WL.done ?_
            refine W.condT rfl ?_
            refine W.seq ?_
            refine W.region ?_
            refine WL.assign rfl rfl ?_
            refine WL.done ?_
            refine W.ret ?_
            refine ⟨_, rfl, Fin.nil ?_⟩
            exact ⟨_, hS.ext, (hS.pick [] rfl).rows, News.of (hS.pick [] rfl).rows rfl, ⟨false, rfl, rfl, hv⟩⟩

end Go.Proofs.Ytmdigamgojfjdaa
set_option linter.unusedVariables false
set_option linter.unusedSimpArgs false
namespace Go.Proofs.Ytmdigamgojfjdaa
open Ks
/-! ### the field's operations -/
section
variable {k : Ks} {F : GFv} {P M : Int} {mf : List Int}
theorem w_psub {p t : List Int} {Q : List Int → Prop} (K : GFk F k.p k.m k.v k.g) (hp : p.length ≤ 100000) (ht : t.length ≤ 100000) (h : Q (k.L (k.pol p - k.pol t))) : V_psub F p t Q :=
  w_join K hp ht (fun i R hR => w_Sub K (by rw [el_co, el_co]; exact hR)) ((pol_max p t).1.sub (pol_max p t).2) h
end
end Go.Proofs.Ytmdigamgojfjdaa
set_option linter.unusedVariables false
set_option linter.unusedSimpArgs false
namespace Go.Proofs.Ytmdigamgojfjdaa
open Ks
/-! ### greatest common divisors, values, derivatives, roots -/
section
variable {k : Ks} {F : GFv} {P M : Int} {mf : List Int}
theorem w_cofactor {p t : List Int} {Q : List Int × List Int → Prop} (K : GFk F k.p k.m k.v k.g) (hp : p.length ≤ 300) (ht : t.length ≤ 300) (hQ : ∀ u, Cof (k.pol p) (k.pol t) (gc (k.pol p) (k.pol t)) u → Q (k.L (gc (k.pol p) (k.pol t)), k.L u)) : V_cofactor F p t Q := by
  generalize hf : k.pol p = f at *
  generalize hh : k.pol t = h at *
  have hff : Fs f := by rw [← hf]; exact pol_fs p
  have hhf : Fs h := by rw [← hh]; exact pol_fs t
  refine ⟨fun x y u n => ∃ U N : Pl k.E, x.length ≤ 300 ∧ y.length ≤ 300 ∧ u = k.L U ∧ n = k.L N ∧ Fs U ∧ Fs N ∧ (∀ d, Gd (k.pol x) (k.pol y) d → Gd f h d) ∧ (∃ v, Fs v ∧ k.pol x = U * f + v * h) ∧ (∃ v, Fs v ∧ k.pol y = N * f + v * h) ∧
      ((k.pol x = f ∧ k.pol y = h ∧ U = 1 ∧ N = 0) ∨ ∃ e b, Dg h b ∧ Dg (k.pol x) e ∧ e ≤ b ∧ Su (k.pol y) e ∧ Su U (b - e) ∧ Su N (b - e + 1)), fun x y u n => (k.L (k.pol y)).length, ?_, ?_⟩
  · refine ⟨1, 0, hp, ht, L_one.symm, L_zero.symm, Fs.one, Fs.zero, fun d hd => by rwa [hf, hh] at hd, ⟨0, Fs.zero, by rw [Cr.one_mul, Cr.zero_mul, Cr.add_zero, hf]⟩, ⟨1, Fs.one, by rw [Cr.zero_mul, Cr.one_mul, Cr.zero_add, hh]⟩, .inl ⟨hf, hh, rfl, rfl⟩⟩
  rintro x y _ _ ⟨U, N, hx, hy, rfl, rfl, fU, fN, hgd, ⟨v, fv, ev⟩, ⟨w, fw, ew⟩, hst⟩
  dsimp only
  have hlb : (k.L N).length ≤ 301 ∧ (k.L U).length ≤ 301 := by
    rcases hst with ⟨_, _, rfl, rfl⟩ | ⟨e, b, h1, h2, h3, h4, h5, h6⟩
    · rw [L_one, L_zero]; exact ⟨by simp, by simp⟩
    · have hb := h1.lt (show Su h t.length by rw [← hh]; exact pol_su t)
      have l1 := L_len (k := k) h5; have l2 := L_len (k := k) h6
      omega
  refine w_deg K fun r hr hlt => ⟨fun h0 => ?_, fun h0 => ?_⟩
  · rcases hr with ⟨h1, _⟩ | ⟨d, h1, h2⟩
    · omega
    · refine w_pdivmod K (by omega) (by omega) (fun e => absurd e h2.ne) fun d' h3 => ?_
      obtain rfl := h2.uniq h3
      obtain ⟨q1, q2, q3⟩ := qt_spec (pol_su x) h2
      have hl := L_len (k := k) q3
      have hlq := L_len (k := k) q1
      generalize hqq : qt (k.pol x) (k.pol y) = qq at *
      generalize hrr : rm (k.pol x) (k.pol y) = rr at *
      dsimp only
      refine w_pmul2 K (by omega) (by omega) ?_
      rw [pol_L ⟨_, q1⟩, pol_L fN]
      have hsq : Su (qq * N) ((x.length - d) + (k.L N).length - 1) := q1.mul (L_su fN)
      have hl3 := L_len (k := k) hsq
      refine w_psub K (by omega) (by omega) ?_
      rw [pol_L fU, pol_L ⟨_, hsq⟩]
      refine ⟨⟨N, U - qq * N, hy, by omega, rfl, rfl, fN, fU.sub ⟨_, hsq⟩, fun e he => hgd e (Gd.step ⟨_, q1⟩ q2 (by rwa [pol_L ⟨_, q3⟩] at he)), ⟨w, fw, ew⟩, ⟨v - qq * w, fv.sub (Fs.mul ⟨_, q1⟩ fw), ?_⟩, ?_⟩, by rw [pol_L ⟨_, q3⟩, L_dg h2]; omega⟩
      · rw [pol_L ⟨_, q3⟩]
        have e1 : rr = k.pol x - qq * k.pol y := by rw [q2, Cr.add_comm, Cr.add_sub]
        rw [e1, ev, ew, Cr.mul_add, Cr.sub_mul, Cr.sub_mul, Cr.sub_eq, Cr.sub_eq, Cr.sub_eq, Cr.neg_addd, Cr.mul_assoc, Cr.mul_assoc]
        ac_rfl
      · right
        rw [pol_L ⟨_, q3⟩]
        rcases hst with ⟨e1, e2, rfl, rfl⟩ | ⟨e, b, h5, h6, h7, h8, h9, h10⟩
        · refine ⟨d, d, by rw [← e2]; exact h2, h2, Nat.le_refl _, q3, fun i _ => rfl, ?_⟩
          rw [Cr.mul_zero, Cr.sub_zero, Nat.sub_self]; exact Su.one
        · have hde : d < e := h2.lt h8
          have hb' := h6.lt (pol_su x)
          refine ⟨d, b, h5, h2, by omega, q3, h10.mono (by omega), (h9.mono (by omega)).sub ?_⟩
          have hq : Su qq (e + 1 - d) := by
            have := (qt_spec h6.2 h2).1
            rwa [hqq] at this
          exact (hq.mul h10).mono (by omega)
  · have hy0 : k.pol y = 0 := by
      rcases hr with ⟨_, h2⟩ | ⟨d, h1, h2⟩
      · exact h2
      · omega
    rw [hy0] at hgd
    have hcx := L_len (pol_su (k := k) x)
    refine w_canon K (by omega) ⟨fun e => ?_, fun e => ?_⟩
    · have hx0 : k.pol x = 0 := (L_len0 (pol_fs x)).1 (by omega)
      have hg0 := gc_uniq hff hhf (hgd _ (Gd.zero _)) (.inr hx0)
      rw [hx0] at hg0
      obtain ⟨z1, z2⟩ : f = 0 ∧ h = 0 := by
        have := hgd _ (Gd.zero _); rw [hx0] at this; exact this.zero0
      have := hQ 0 ⟨Fs.zero, ⟨0, Fs.zero, by rw [← hg0, Cr.zero_mul, Cr.zero_mul, Cr.add_zero]⟩, fun _ _ => rfl, fun _ h => absurd z1 h, fun b e _ _ i _ => rfl⟩
      rw [← hg0, L_zero] at this; exact this
    · obtain ⟨d, hd⟩ : ∃ d, Dg (k.pol x) d := ⟨_, (L_rp (pol_fs x)).dg (by omega)⟩
      refine ⟨small (by omega) (by omega), ⟨by omega, by omega⟩, ?_⟩
      rw [L_top hd]
      refine w_Inv K (fun e2 => ?_) fun e2 => ?_
      · rw [el_co] at e2; exact absurd e2 hd.1
      · rw [el_co]
        have hi := inv_ne hd.1
        refine w_scaleL K (pol_fs x) (by omega) (by rw [el_co]; exact hi) (w_scaleL K fU (by omega) (by rw [el_co]; exact hi) ?_)
        rw [el_co]
        have hg0 := gc_uniq hff hhf ((hgd _ (Gd.zero _)).monic hd) (.inl (monic_ct hd))
        rw [hg0]
        refine hQ _ ⟨(Fs.ct _).mul fU, ⟨ct (inv_ (k.pol x d)) * v, (Fs.ct _).mul fv, ?_⟩, fun z1 z2 => ?_, fun z1 z2 => ?_, fun b e h1 h2 => ?_⟩
        · rw [← hg0, Cr.mul_assoc, Cr.mul_assoc, ← Cr.mul_add, ← ev]
        · rw [z1, z2, Cr.mul_zero, Cr.mul_zero, Cr.add_zero] at ev
          exact absurd ev hd.ne
        · rcases hst with ⟨_, _, rfl, _⟩ | ⟨e, b, h5, _⟩
          · exact ⟨inv_ (k.pol x d), hi, Cr.mul_one _⟩
          · rw [z1] at h5; exact absurd rfl h5.ne
        · rw [← hg0] at h2
          rcases hst with ⟨e1, e2', rfl, rfl⟩ | ⟨e', b', h5, h6, h7, h8, h9, h10⟩
          · rw [hy0] at e2'; rw [← e2'] at h1; exact absurd rfl h1.ne
          · obtain rfl := h5.uniq h1
            obtain rfl := h6.uniq hd
            have := (hd.ct hi).uniq h2
            rw [← this]; exact h9.ct _
theorem w_bezout {p t : List Int} {Q : List Int × List Int × List Int → Prop} (K : GFk F k.p k.m k.v k.g) (hp : p.length ≤ 300) (ht : t.length ≤ 300)
    (hQ : ∀ u v, Cof (k.pol p) (k.pol t) (gc (k.pol p) (k.pol t)) u → Fs v → gc (k.pol p) (k.pol t) = u * k.pol p + v * k.pol t → (k.pol t = 0 → v = 0) → Q (k.L (gc (k.pol p) (k.pol t)), k.L u, k.L v)) : V_bezout F p t Q := by
  refine w_cofactor K hp ht fun u C => ?_
  obtain ⟨fd, hfd⟩ := gc_spec (pol_fs (k := k) p) (pol_fs t)
  have hgs : (k.L (gc (k.pol p) (k.pol t))).length ≤ 300 ∧ (k.L u).length ≤ 300 := by
    rcases dg_ex (pol_su (k := k) t) with h | ⟨b, hb, h⟩
    · by_cases hpz : k.pol p = 0
      · rw [C.z0 h hpz]
        have := gc_uniq (pol_fs p) (pol_fs t) (d := 0) (by rw [h, hpz]; exact Gd.zero 0) (.inr rfl)
        rw [← this, L_zero]; exact ⟨by simp, by simp⟩
      · obtain ⟨c, _, e⟩ := C.z1 h hpz
        rw [e]
        refine ⟨?_, Nat.le_trans (L_len (ct_su c)) (by omega)⟩
        rcases hfd.2 with ⟨d, hd, _⟩ | h0
        · rcases dg_ex (pol_su (k := k) p) with h1 | ⟨a, ha, h1⟩
          · exact absurd h1 hpz
          · have := fd.1.dg hd h1; rw [L_dg hd]; omega
        · rw [h0, L_zero]; simp
    · rcases hfd.2 with ⟨d, hd, _⟩ | h0
      · have := fd.2.1.dg hd h
        have h2 := L_len (k := k) (C.dg b d h hd)
        rw [L_dg hd]; omega
      · rw [h0] at fd; exact absurd (dvd_zero0 fd.2.1) h.ne
  refine w_pmul2 K (by omega) (by omega) ?_
  rw [pol_L C.fu]
  have hl := L_len (k := k) ((L_su C.fu).mul (pol_su p))
  refine w_psub K (by omega) (by omega) ?_
  rw [pol_L hfd.1, pol_L (C.fu.mul (pol_fs p))]
  have hfs : Fs (gc (k.pol p) (k.pol t) - u * k.pol p) := hfd.1.sub (C.fu.mul (pol_fs p))
  have hsu : Su (gc (k.pol p) (k.pol t) - u * k.pol p) 1000 := ((L_su hfd.1).mono (by omega)).sub (((L_su C.fu).mul (pol_su p)).mono (by omega))
  have hl2 := L_len (k := k) hsu
  obtain ⟨v, fv, e⟩ := C.ex
  have e2 : gc (k.pol p) (k.pol t) - u * k.pol p = v * k.pol t := by rw [e, Cr.add_comm, Cr.add_sub]
  refine w_pdivmod K (by omega) (by omega) (fun h0 => ?_) fun d hd => ?_
  · have := hQ u 0 C Fs.zero (by
      have e3 : v * k.pol t = 0 := by rw [h0, Cr.mul_zero]
      rw [Cr.zero_mul, Cr.add_zero]; exact Cr.eq_of_sub (e2.trans e3)) (fun _ => rfl)
    rw [L_zero] at this; exact this
  · rw [pol_L hfs]
    have hq := (qt_uniq (f := gc (k.pol p) (k.pol t) - u * k.pol p) hd fv (r := 0) (by rw [e2, Cr.add_zero]) (Su.zero d)).1
    rw [hq]
    exact hQ u v C fv e (fun h0 => by rw [h0] at hd; exact absurd rfl hd.ne)
end
end Go.Proofs.Ytmdigamgojfjdaa
set_option linter.unusedVariables false
set_option linter.unusedSimpArgs false
namespace Go.Proofs.Ytmdigamgojfjdaa
open Ks
/-! ### the reference's quotients, values; what the laws ask first -/
section
variable {k : Ks} {F : GFv} {P M : Int} {mf : List Int}
theorem w_rmonic {p : List Int} {Q : List Int → Prop} (hF : FV P M mf k.p k.m k.v) (hp : p.length ≤ 10000) (h0 : k.pol p = 0 → Q []) (h1 : ∀ d, Dg (k.pol p) d → Q (k.L (ct (inv_ (k.pol p d)) * k.pol p))) : V_rmonic P M mf p Q := by
  have hc := L_len (pol_su (k := k) p)
  refine w_rcanon hF (by omega) ⟨fun e => ?_, fun e => ?_⟩
  · have hz := (L_len0 (pol_fs (k := k) p)).1 (by omega)
    have := h0 hz
    rwa [hz, L_zero]
  · obtain ⟨d, hd⟩ : ∃ d, Dg (k.pol p) d := ⟨_, (L_rp (pol_fs p)).dg (by omega)⟩
    rw [L_top hd]
    refine ⟨small (by omega) (by omega), ⟨by omega, by omega⟩, _, w_rInv hF (by rw [el_co]; exact hd.1) rfl, _, w_rpscale hF (by omega) rfl, ?_⟩
    rw [el_co, el_co, pol_L hd.fs]; exact h1 d hd
theorem w_rgcd {p t : List Int} {Q : List Int → Prop} (hF : FV P M mf k.p k.m k.v) (hp : p.length ≤ 10000) (ht : t.length ≤ 10000) (h : Q (k.L (gc (k.pol p) (k.pol t)))) : V_rgcd P M mf p t Q := by
  have hcp := L_len (pol_su (k := k) p)
  have hct := L_len (pol_su (k := k) t)
  refine w_rcanon hF (by omega) (w_rcanon hF (by omega) ?_)
  refine ⟨fun x y => ∃ f g : Pl k.E, x = k.L f ∧ y = k.L g ∧ Su f 10000 ∧ Su g 10000 ∧ ∀ d, Gd f g d → Gd (k.pol p) (k.pol t) d, fun x y => y.length, ⟨_, _, rfl, rfl, (pol_su p).mono hp, (pol_su t).mono ht, fun d hd => hd⟩, ?_⟩
  rintro _ _ ⟨f, g, rfl, rfl, hf, hg, hd⟩
  dsimp only
  have lf := L_len (k := k) hf
  have lg := L_len (k := k) hg
  refine ⟨fun hlt => ?_, fun hge => ?_⟩
  · obtain ⟨e, he⟩ : ∃ e, Dg g e := ⟨_, (L_rp ⟨_, hg⟩).dg (by omega)⟩
    obtain ⟨q1, q2, q3⟩ := qt_spec hf he
    refine w_rdivmod hF (by omega) (by omega) (by rw [pol_L ⟨_, hg⟩]; exact he.ne) ?_
    rw [pol_L ⟨_, hg⟩, pol_L ⟨_, hf⟩]
    have hl := L_len (k := k) q3
    dsimp only
    exact ⟨⟨g, _, rfl, rfl, hg, q3.mono (by have := he.lt hg; omega), fun d' hd' => hd d' (Gd.step ⟨_, q1⟩ q2 hd')⟩, by rw [L_dg he]; omega⟩
  · have hg0 : g = 0 := (L_len0 ⟨_, hg⟩).1 (by omega)
    rw [hg0] at hd
    refine w_rmonic (k := k) hF (by omega) (fun hz => ?_) fun d h3 => ?_
    · rw [pol_L ⟨_, hf⟩] at hz
      have := gc_uniq (pol_fs p) (pol_fs t) (hd _ (Gd.zero _)) (.inr hz)
      rw [hz] at this
      rw [← this, L_zero] at h; exact h
    · rw [pol_L ⟨_, hf⟩] at h3 ⊢
      have := gc_uniq (pol_fs p) (pol_fs t) ((hd _ (Gd.zero _)).monic h3) (.inl (monic_ct h3))
      rw [this]; exact h
end
end Go.Proofs.Ytmdigamgojfjdaa
set_option linter.unusedVariables false
set_option linter.unusedSimpArgs false
namespace Go.Proofs.Ytmdigamgojfjdaa
open Ks
section
variable {k : Ks} {F : GFv} {P M : Int} {mf : List Int}
theorem law_PolyBezouts (p t : List Int) : V_PolyBezouts P M mf p t (fun b => b = true) := by
  refine w_alive ⟨fun h => absurd h (by decide), fun _ => w_made (fun _ => rfl) fun F k K hF => w_short2 rfl fun hp ht => ?_⟩
  have hpf := pol_fs (k := k) p
  have htf := pol_fs (k := k) t
  obtain ⟨hg, hgf, hgm⟩ := gc_spec hpf htf
  refine w_bezout K (by omega) (by omega) fun u v C fv e hv0 => w_rgcd (k := k) hF (by omega) (by omega) ?_
  have hlg : (k.L (gc (k.pol p) (k.pol t))).length ≤ 24 := by
    rcases hgm with ⟨d, hd, _⟩ | h0
    · rcases dg_ex (pol_su (k := k) p) with z | ⟨a, ha, h3⟩
      · rcases dg_ex (pol_su (k := k) t) with z2 | ⟨a, ha, h3⟩
        · exact absurd (dvd_zero0 (hg.2.2 0 (by rw [z]; exact Dv.zero 0) (by rw [z2]; exact Dv.zero 0))) hd.ne
        · have := hg.2.1.dg hd h3; rw [L_dg hd]; omega
      · have := hg.1.dg hd h3; rw [L_dg hd]; omega
    · rw [h0, L_zero]; simp
  have hlu : (k.L u).length ≤ 24 := by
    rcases dg_ex (pol_su (k := k) t) with h | ⟨b, hb, h⟩
    · by_cases hpz : k.pol p = 0
      · rw [C.z0 h hpz, L_zero]; simp
      · obtain ⟨c, _, e⟩ := C.z1 h hpz
        rw [e]; exact Nat.le_trans (L_len (ct_su c)) (by omega)
    · rcases hgm with ⟨d, hd, _⟩ | h0
      · have h2 := L_len (k := k) (C.dg b d h hd); omega
      · rw [h0] at hg; exact absurd (dvd_zero0 hg.2.1) h.ne
  have hlv : (k.L v).length ≤ 1000 := by
    rcases dg_ex (pol_su (k := k) t) with h | ⟨b, hb, h⟩
    · rw [hv0 h, L_zero]; simp
    · have e2 : gc (k.pol p) (k.pol t) - u * k.pol p = v * k.pol t := by
        refine (congrArg (fun z => z - u * k.pol p) e).trans ?_
        show u * k.pol p + v * k.pol t - u * k.pol p = _
        rw [Cr.add_comm, Cr.add_sub]
      have hsu : Su (gc (k.pol p) (k.pol t) - u * k.pol p) 1000 := ((L_su hgf).mono (by omega)).sub (((L_su C.fu).mul (pol_su p)).mono (by omega))
      have hq := (qt_uniq (f := gc (k.pol p) (k.pol t) - u * k.pol p) h fv (r := 0) (by rw [e2, Cr.add_zero]) (Su.zero b)).1
      have h1 := (qt_spec hsu h).1
      rw [hq] at h1
      exact Nat.le_trans (L_len h1) (by omega)
  have lm1 := L_len (k := k) ((L_su C.fu).mul (pol_su p))
  have lm2 := L_len (k := k) ((L_su fv).mul (pol_su t))
  have esum : k.pol (k.L (k.pol (k.L u) * k.pol p)) + k.pol (k.L (k.pol (k.L v) * k.pol t)) = gc (k.pol p) (k.pol t) := by
    rw [pol_L C.fu, pol_L fv, pol_L (C.fu.mul hpf), pol_L (fv.mul htf)]; exact e.symm
  refine ⟨_, w_rpmul (k := k) hF (by omega) (by omega) rfl, _, w_rpmul (k := k) hF (by omega) (by omega) rfl, _, w_rpadd (k := k) hF ?_ ?_ rfl, w_same (by omega) rfl (nb (w_same ?_ (by rw [esum]) (nb (w_rcanon hF (by omega) (w_same (by omega) (L_idem C.fu).symm (nb (w_rcanon hF (by omega) (w_same (by omega) (L_idem fv).symm (nb ?_))))))))) ⟩
  · rw [pol_L C.fu]; omega
  · rw [pol_L fv]; omega
  · rw [esum]; omega
  refine ⟨_, w_rdeg hF (by omega) rfl, _, w_rdeg hF (by omega) rfl, k.pol t ≠ 0, ⟨fun h1 => ⟨fun h2 => ?_, fun h2 => ⟨fun h3 => absurd h3 h2, fun _ hz => h2 ((deg_neg htf).2 hz)⟩⟩, fun h1 => ⟨fun h2 => ?_, fun h2 hz => h2 ((deg_neg htf).2 hz)⟩⟩, fun ht0 => ⟨small (by omega) (by omega), small (by omega) (by omega), small ?_ ?_, ?_⟩⟩
  · have z1 := (deg_neg hpf).1 h1
    have z2 := (deg_neg htf).1 h2
    rw [C.z0 z2 z1, hv0 z2, L_zero]
    exact ⟨fun _ => rfl, fun h => absurd rfl h⟩
  · have z2 := (deg_neg htf).1 h2
    obtain ⟨c, hc, e3⟩ := C.z1 z2 (fun z1 => h1 ((deg_neg hpf).2 z1))
    have hd : Dg u 0 := by rw [e3]; exact ⟨hc, ct_su c⟩
    rw [hv0 z2, L_zero, L_dg hd]
    exact ⟨fun _ => rfl, fun h => absurd rfl h⟩
  · have := L_len (pol_su (k := k) t); omega
  · have := L_len (pol_su (k := k) t); omega
  · obtain ⟨b, hb⟩ : ∃ b, Dg (k.pol t) b := ⟨_, (L_rp (k := k) htf).dg (Nat.pos_of_ne_zero fun e => ht0 ((L_len0 htf).1 e))⟩
    rcases hgm with ⟨d, hd, _⟩ | h0
    · have h2 := L_len (k := k) (C.dg b d hb hd)
      have h3 := L_dg (k := k) hb
      have h4 := L_dg (k := k) hd
      exact decide_eq_true (by omega)
    · rw [h0] at hg; exact absurd (dvd_zero0 hg.2.1) ht0
end
end Go.Proofs.Ytmdigamgojfjdaa
