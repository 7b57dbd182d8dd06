/- What only this law leans on. -/
import Derived.Test.YtmdigamgojfjdaaPolyMonicG11
set_option linter.unusedVariables false
namespace Go.Proofs.Ytmdigamgojfjdaa
open Go.RowKit
theorem Try.nm33 : (Try.f33.name == "runtime.NumGoroutine") = false := by kernel_rfl
theorem Try.nm44 : (Try.f44.name == "runtime.NumGoroutine") = false := by kernel_rfl
theorem Try.nm48 : (Try.f48.name == "runtime.NumGoroutine") = false := by kernel_rfl
theorem Try.nm55 : (Try.f55.name == "runtime.NumGoroutine") = false := by kernel_rfl
theorem Try.nm85 : (Try.f85.name == "runtime.NumGoroutine") = false := by kernel_rfl
end Go.Proofs.Ytmdigamgojfjdaa
set_option linter.unusedSimpArgs false
set_option linter.unusedVariables false
namespace Go.Proofs.Ytmdigamgojfjdaa
open Go.RowKit
def V_Div (Fg : GFv) (x : Int) (y : Int) (Q : Int × Int → Prop) : Prop :=
  V_Inv Fg y (fun q => match q with | (r12, r13) => V_Mul Fg x r12 (fun r15 => Q (r15, r13)))
theorem ok_Div {w : World} {Q : Int × Int → Prop} {Fg : GFv} {x : Int} {y : Int} {ag : Addr} {Bg : Nat} (hgg : GFR Bg w ag Fg) (hv : V_Div Fg x y Q) :
    Calls Try.prog 85 #[.pointer (some ag), .int .i64 x, .int .i64 y] w fun e w' => ∃ v Qr, e = .returned v ∧ w.grownBy w' none ∧ Rows w.heap.size none w' Qr ∧ News w.heap.size Qr ∧ ∃ (r0 : Int) (r1 : Int), v = .tuple #[.int .i64 r0, .int .i64 r1] ∧ Qr = [] ∧ Q (r0, r1) := by
  have hgg_ := hgg
  obtain ⟨Ag_mod, kg_mod, Ag_exp, kg_exp, Ag_log, kg_log, Ag_above, kg_above, hg_c, hg_mod, hg_exp, hg_log, hg_above⟩ := hgg_
  refine calls_swap ?_
  refine calls_of_W (vs := [.pointer (some ag), .int .i64 x, .int .i64 y]) [6, 7] Try.func85 rfl rfl rfl rfl ?_
  have hS := St.start w
  unfold V_Div at hv
  refine W.seq ?_
  refine W.region ?_
  refine WL.assign rfl rfl ?_
  refine WL.assign rfl rfl ?_
  refine WL.done ?_
  refine W.seq ?_
  refine W.region ?_
  refine WL.move rfl rfl ?_
  refine WL.move rfl rfl ?_
  refine SL.call hS (ok_Inv (GFR.ext (GFR.norm hgg) hS.ext) hv) Try.func73 rfl Try.nm73 rfl rfl ?_
  rintro _ _ w11 ⟨r12, r13, rfl, rfl, hv⟩ hGw11 hS
  change St _ _ _ _ [] at hS
  refine WL.move rfl rfl ?_
  refine WL.extract rfl rfl rfl ?_
  refine WL.extract rfl rfl rfl ?_
  refine WL.assign rfl rfl ?_
  refine WL.assign rfl rfl ?_
  refine WL.done ?_
  refine W.seq ?_
  refine W.region ?_
  refine WL.move rfl rfl ?_
  refine WL.move rfl rfl ?_
  refine WL.move rfl rfl ?_
  refine SL.call hS (ok_Mul (GFR.ext (GFR.norm hgg) hS.ext) hv) Try.func74 rfl Try.nm74 rfl rfl ?_
  rintro _ _ w14 ⟨r15, rfl, rfl, hv⟩ hGw14 hS
  change St _ _ _ _ [] at hS
  refine WL.move rfl rfl ?_
  refine WL.assign rfl rfl ?_
  refine WL.assign rfl rfl ?_
  refine WL.done ?_
  refine W.ret ?_
  refine ⟨_, rfl, Fin.nil ?_⟩
  exact ⟨_, hS.ext, (hS.pick [] rfl).rows, News.of (hS.pick [] rfl).rows rfl, ⟨r15, r13, rfl, rfl, hv⟩⟩

end Go.Proofs.Ytmdigamgojfjdaa
set_option linter.unusedVariables false
namespace Go.Proofs.Ytmdigamgojfjdaa
def rs (A : Nat → Nat → Nat) (f : Nat → Nat) : Nat → Nat
  | 0 => 0
  | n + 1 => A (rs A f n) (f n)
section
namespace CR
end CR
end
end Go.Proofs.Ytmdigamgojfjdaa
set_option linter.unusedVariables false
set_option linter.unusedSimpArgs false
namespace Go.Proofs.Ytmdigamgojfjdaa
/-! ### the methods -/
section
variable {F : GFv} {p m v g : Nat}
theorem v_Div {x y : Int} {Q : Int × Int → Prop} (K : GFk F p m v g) (h0 : inE (p ^ m) y = 0 → Q (0, 7)) (h1 : ∀ z : Nat, inE (p ^ m) y ≠ 0 → z < p ^ m → fmul p m (dv p v) z (inE (p ^ m) y) = 1 → Q ((fmul p m (dv p v) (inE (p ^ m) x) z : Nat), 0)) : V_Div F x y Q := by
  have R := K.fv.ring
  refine v_Inv K (fun h => ?_) fun z hne hz h => ?_
  · refine v_Mul K ?_
    rw [show inE (p ^ m) 0 = 0 from inE_nat (x := 0) R.pos, R.M0 (inE_lt R.pos x)]
    exact h0 h
  · refine v_Mul K ?_
    rw [inE_nat hz]
    exact h1 z hne hz h
end
end Go.Proofs.Ytmdigamgojfjdaa
set_option linter.unusedVariables false
set_option linter.unusedSimpArgs false
set_option linter.unusedSectionVars false
namespace Go.Proofs.Ytmdigamgojfjdaa
section
variable {α : Type} [Cr α]
/-! linear factors -/
def lin (a : α) : Pl α := fun i => if i = 0 then -a else if i = 1 then 1 else 0
theorem lin_su (a : α) : Su (lin a) 2 := fun i hi => by unfold lin; rw [if_neg (by omega), if_neg (by omega)]
theorem vl_lin (a x : α) : vl_ (lin a) x = x - a := by
  rw [vl_eq (lin_su a)]
  show (0 : α) + lin a 0 * 1 + lin a 1 * (1 * x) = x - a
  rw [Cr.zero_add, Cr.mul_one, Cr.one_mul]
  show -a + 1 * x = x - a
  rw [Cr.one_mul, Cr.add_comm]; rfl
def lpf (r : Pl α) : Nat → Pl α
  | 0 => 1
  | k + 1 => lpf r k * lin (r k)
theorem lpf_fs (r : Pl α) : ∀ k, Fs (lpf r k)
  | 0 => Fs.one
  | k + 1 => (lpf_fs r k).mul ⟨2, lin_su _⟩
theorem lpf_su (r : Pl α) : ∀ k, Su (lpf r k) (k + 1)
  | 0 => Su.one
  | k + 1 => ((lpf_su r k).mul (lin_su _)).mono (by omega)
end
section
variable {α : Type} [Cr α] [Fd α]
theorem lin_dg (a : α) : Dg (lin a) 1 := ⟨by show (1 : α) ≠ 0; exact Fd.ne, lin_su a⟩
theorem vl_lpf (r : Pl α) (x : α) : ∀ k, vl_ (lpf r k) x = 0 ↔ ∃ i, i < k ∧ r i = x
  | 0 => ⟨fun h => absurd (by rw [← h]; exact (vl_one x).symm) (Fd.ne (α := α)), fun ⟨i, hi, _⟩ => by omega⟩
  | k + 1 => by
    rw [lpf, vl_mul (lpf_fs r k) ⟨2, lin_su _⟩, vl_lin]
    constructor
    · intro h
      rcases Fd.nzd h with h | h
      · obtain ⟨i, hi, e⟩ := (vl_lpf r x k).1 h
        exact ⟨i, by omega, e⟩
      · exact ⟨k, by omega, (Cr.eq_of_sub h).symm⟩
    · rintro ⟨i, hi, e⟩
      by_cases hik : i = k
      · subst hik; rw [e, Cr.sub_self, Cr.mul_zero]
      · rw [(vl_lpf r x k).2 ⟨i, by omega, e⟩, Cr.zero_mul]
end
end Go.Proofs.Ytmdigamgojfjdaa
set_option linter.unusedSimpArgs false
set_option linter.unusedVariables false
namespace Go.Proofs.Ytmdigamgojfjdaa
open Go.RowKit
def V_pscale (Fg : GFv) (a : Int) (p : List Int) (Q : List Int → Prop) : Prop :=
  V_Scale Fg a p (fun x12 => V_trim Fg x12 (fun j17 => (0 ≤ j17 ∧ j17 ≤ (x12.length : Nat)) ∧ (Q (x12.take j17.toNat))))
theorem ok_pscale {w : World} {Q : List Int → Prop} {Fg : GFv} {a : Int} {p : List Int} {ag : Addr} {Bg : Nat} (hgg : GFR Bg w ag Fg) {Bp : Nat} {Ap : Option Addr} {np kp : Nat} (hp : Rd Bp w 1 Ap np kp (is p)) (hv : V_pscale Fg a p Q) :
    Calls Try.prog 33 #[.pointer (some ag), .int .i64 a, .slice Ap np kp] w fun e w' => ∃ v Qr, e = .returned v ∧ w.grownBy w' none ∧ Rows w.heap.size none w' Qr ∧ News w.heap.size Qr ∧ ∃ (r0 : List Int) (Ar0 : Option Addr) (cr0 : Nat), v = .slice Ar0 r0.length cr0 ∧ Qr = [.row 3 1 Ar0 r0.length cr0 (is r0)] ∧ Q r0 := by
  have hgg_ := hgg
  obtain ⟨Ag_mod, kg_mod, Ag_exp, kg_exp, Ag_log, kg_log, Ag_above, kg_above, hg_c, hg_mod, hg_exp, hg_log, hg_above⟩ := hgg_
  have hnp := hp.ilen
  subst hnp
  refine calls_swap ?_
  refine calls_of_W (vs := [.pointer (some ag), .int .i64 a, .slice Ap p.length kp]) [6] Try.func33 rfl rfl rfl rfl ?_
  have hS := St.start w
  unfold V_pscale at hv
  refine W.seq ?_
  refine W.region ?_
  refine WL.assign rfl rfl ?_
  refine WL.done ?_
  refine W.seq ?_
  refine W.region ?_
  refine WL.move rfl rfl ?_
  refine WL.move rfl rfl ?_
  refine WL.move rfl rfl ?_
  refine WL.move rfl rfl ?_
  refine SL.call hS (ok_Scale (GFR.ext (GFR.norm hgg) hS.ext) (hS.ro hp) hv) Try.func72 rfl Try.nm72 rfl rfl ?_
  rintro _ _ w11 ⟨x12, A13, k14, rfl, rfl, hv⟩ hGw11 hS
  change St _ _ _ _ [.row 3 1 A13 x12.length k14 (is x12)] at hS
  refine SL.call hS (ok_trim (GFR.ext (GFR.norm hgg) hS.ext) (hS.rd (i := 0) rfl) hv) Try.func71 rfl Try.nm71 rfl rfl ?_
  rintro _ _ w16 ⟨j17, rfl, rfl, hv⟩ hGw16 hS
  change St _ _ _ _ [.row 3 1 A13 x12.length k14 (is x12)] at hS
  obtain ⟨o18, hv⟩ := hv
  refine WL.assign rfl rfl ?_
  refine WL.done ?_
  refine W.ret ?_
  have hq0 := (hS.rd (i := 0) rfl).ilen
  have hS := hS.shrink (i := 0) (k := j17.toNat) rfl (by omega)
  have hl0 : (x12.take j17.toNat).length = j17.toNat := by rw [List.length_take]; omega
  refine ⟨_, rfl, Fin.nil ?_⟩
  exact ⟨_, hS.ext, (hS.pick [0] rfl).rows, News.of (hS.pick [0] rfl).rows rfl, ⟨x12.take j17.toNat, A13, k14, (by first | (rw [hl0]; done) | (rw [hl0]; rfl)), rfl, hv⟩⟩

end Go.Proofs.Ytmdigamgojfjdaa
set_option linter.unusedSimpArgs false
set_option linter.unusedVariables false
namespace Go.Proofs.Ytmdigamgojfjdaa
open Go.RowKit
def V_eval (Fg : GFv) (p : List Int) (x : Int) (Q : Int → Prop) : Prop :=
  V_backward p (fun _ => ∃ (I24 : Nat → Int → Prop), I24 0 (0 : Int) ∧ (∀ i20 : Nat, i20 < p.length → ∀ (z23 : Int), I24 i20 z23 → (∃ (r31 : Int), V_Mul Fg z23 x (fun q => q = r31) ∧ (V_Add Fg r31 (gi p ((p.length - 1 - i20 : Nat) : Int)) (fun r37 => I24 (i20 + 1) r37)))) ∧ (∀ (z23 : Int), I24 p.length z23 → Q z23))
theorem ok_eval {w : World} {Q : Int → Prop} {Fg : GFv} {p : List Int} {x : Int} {ag : Addr} {Bg : Nat} (hgg : GFR Bg w ag Fg) {Bp : Nat} {Ap : Option Addr} {np kp : Nat} (hp : Rd Bp w 1 Ap np kp (is p)) (hv : V_eval Fg p x Q) :
    Calls Try.prog 44 #[.pointer (some ag), .slice Ap np kp, .int .i64 x] w fun e w' => ∃ v Qr, e = .returned v ∧ w.grownBy w' none ∧ Rows w.heap.size none w' Qr ∧ News w.heap.size Qr ∧ ∃ (r0 : Int), v = .int .i64 r0 ∧ Qr = [] ∧ Q r0 := by
  have hgg_ := hgg
  obtain ⟨Ag_mod, kg_mod, Ag_exp, kg_exp, Ag_log, kg_log, Ag_above, kg_above, hg_c, hg_mod, hg_exp, hg_log, hg_above⟩ := hgg_
  have hnp := hp.ilen
  subst hnp
  refine calls_swap ?_
  refine calls_of_W (vs := [.pointer (some ag), .slice Ap p.length kp, .int .i64 x]) [6] Try.func44 rfl rfl rfl rfl ?_
  have hS := St.start w
  unfold V_eval at hv
  refine W.seq ?_
  refine W.region ?_
  refine SL.box (z := 1) (cs := [.pointer (some ag)]) hS rfl rfl rfl rfl ?_
  intro g11 w12 hS
  refine SL.box (z := 1) (cs := [.int .i64 x]) hS rfl rfl rfl rfl ?_
  intro g13 w14 hS
  refine WL.assign rfl rfl ?_
  refine WL.done ?_
  refine W.seq ?_
  refine W.region ?_
  refine SL.alloc (cs := [.int .i64 (0 : Int)]) hS Try.el3 rfl rfl ?_
  intro g15 w16 hS
  refine SL.store (cs' := [.int .i64 (0 : Int)]) 0 0 hS rfl Try.el3 rfl rfl rfl (of_ble rfl) rfl ?_
  intro w17 hS
  refine WL.done ?_
  refine W.seq ?_
  refine W.seq ?_
  refine W.region ?_
  refine WL.move rfl rfl ?_
  refine SL.call hS (ok_backward (hS.ro hp) hv) Try.func65 rfl Try.nm65 rfl rfl ?_
  rintro _ _ w18 ⟨g19, rfl, rfl, hv⟩ hGw18 hS
  change St _ _ _ _ [.row 22 1 (some ⟨g19, 0, none⟩) 1 1 [.slice Ap p.length kp], .row 3 1 (some ⟨g15, 0, none⟩) 1 1 [.int .i64 (0 : Int)], .row 3 1 (some ⟨g13, 0, none⟩) 1 1 [.int .i64 x], .row 26 1 (some ⟨g11, 0, none⟩) 1 1 [.pointer (some ag)]] at hS
  refine WL.done ?_
  refine W.block ?_
  obtain ⟨I24, hv, hk41, hd42⟩ := hv
  change St _ _ _ _ [.row 22 1 (some ⟨g19, 0, none⟩) 1 1 [.slice Ap p.length kp], .row 3 1 (some ⟨g15, 0, none⟩) 1 1 [.int .i64 (0 : Int)], .row 3 1 (some ⟨g13, 0, none⟩) 1 1 [.int .i64 x], .row 26 1 (some ⟨g11, 0, none⟩) 1 1 [.pointer (some ag)]] at hS
  refine SR.range (σ := Int) (fun i q => match q with | z23 => I24 i z23) (fun z23 => [.row 22 1 (some ⟨g19, 0, none⟩) 1 1 [.slice Ap p.length kp], .row 3 1 (some ⟨g15, 0, none⟩) 1 1 [.int .i64 z23], .row 3 1 (some ⟨g13, 0, none⟩) 1 1 [.int .i64 x], .row 26 1 (some ⟨g11, 0, none⟩) 1 1 [.pointer (some ag)]]) (fun _ _ => False) (fun vs => [(3, .pointer (some ⟨g11, 0, none⟩)), (5, .pointer (some ⟨g13, 0, none⟩)), (6, .int .i64 (0 : Int)), (7, .pointer (some ⟨g15, 0, none⟩)), (9, vs.getD 1 undef)]) (0 : Int) hS hv (fun q => by obtain z23 := q; exact trivial) rfl Try.func97 rfl Try.nm97 (backward_seq (A := Ap) (m := p.length) (c := kp) (Rd.m64 (hS.ro hp))) (Below.refl _ _) (fun _ _ _ h => by obtain ⟨_, h, _⟩ := h; rw [h]; rfl) (fun i x => bw_stay) (by decide) (fun _ q _ _ hS => by obtain z23 := q; exact ⟨Own.vcells (hS.own (i := 0) rfl) 0 _ rfl, _, _, (hS.ro hp)⟩) ?_ ?_ ?_ ?_
  · intro lq vsq W1q hlq
    match vsq, hlq with
    | [a0, a1], _ =>
      refine W.region ?_
      refine WL.assign rfl rfl ?_
      refine WL.done ?_
      exact ⟨rfl, rfl, ⟨rfl, rfl, rfl, rfl, rfl, trivial⟩⟩
  · rintro lq i20 _ z23 w25 hi ⟨vb, rfl, hcell⟩ hI hS
    have hvb : vb = (gi p ((p.length - 1 - i20 : Nat) : Int)) := bw_val (hS.ro hp) (by omega) hcell
    subst hvb
    have hv := hk41 i20 hi z23 hI
    refine W.block ?_
    obtain ⟨r31, o33, hv⟩ := hv
    have hS0 := hS
    refine W.drawX 6 (fun _ => false) (fun _ => none) [⟨[], [3], false⟩, ⟨[], [3], false⟩, ⟨[], [7], false⟩, ⟨[], [5], false⟩, ⟨[1, 2, 3], [], false⟩, ⟨[], [9], true⟩] [[(3, .pointer (some ⟨g11, 0, none⟩))], [(3, .pointer (some ⟨g11, 0, none⟩))], [(7, .pointer (some ⟨g15, 0, none⟩))], [(5, .pointer (some ⟨g13, 0, none⟩))], [], [(9, .int .i64 (gi p ((p.length - 1 - i20 : Nat) : Int)))]] (fun iQ => [fun v _ => v = .pointer (some ag), fun v _ => v = .pointer (some ag), fun v _ => v = .int .i64 z23, fun v _ => v = .int .i64 x, fun v _ => v = .int .i64 r31, fun v _ => v = .int .i64 (gi p ((p.length - 1 - i20 : Nat) : Int))].getD iQ (fun _ _ => True)) Try.mixed (by kernel_rfl) ?_ (by kernel_rfl) ?_ ?_
    · refine Vs_monoT _ ?_
      intro VQ hVQ vQ wQ1 wQ2 hQ1 hQ2
      simp only [List.mem_cons, List.not_mem_nil, or_false] at hVQ
      rcases hVQ with rfl | rfl | rfl | rfl | rfl | rfl
      · exact hQ1
      · exact hQ1
      · exact hQ1
      · exact hQ1
      · exact hQ1
      · exact hQ1
    · refine ⟨⟨rfl, ⟨rfl, trivial⟩, ?_⟩, ⟨rfl, ⟨rfl, trivial⟩, ?_⟩, ⟨rfl, ⟨rfl, trivial⟩, ?_⟩, ⟨rfl, ⟨rfl, trivial⟩, ?_⟩, ⟨rfl, trivial, ?_⟩, ⟨rfl, ⟨rfl, trivial⟩, ?_⟩, trivial⟩
      · intro w26 hE
        have hE := hE rfl
        have hS := hS.grow hE
        intro RR
        refine WL.load Try.underlying26 rfl rfl (Own.vcells (hS.own (i := 3) rfl) 0 _ rfl) rfl ?_
        exact WL.done ⟨_, rfl, ext_refl _, rfl, (fun h => absurd h (by decide)), (fun j h => by cases h)⟩
      · intro w27 hE
        have hE := hE rfl
        have hS := hS.grow hE
        intro RR
        refine WL.load Try.underlying26 rfl rfl (Own.vcells (hS.own (i := 3) rfl) 0 _ rfl) rfl ?_
        exact WL.done ⟨_, rfl, ext_refl _, rfl, (fun h => absurd h (by decide)), (fun j h => by cases h)⟩
      · intro w28 hE
        have hE := hE rfl
        have hS := hS.grow hE
        intro RR
        refine WL.load Try.underlying3 rfl rfl (Own.vcells (hS.own (i := 1) rfl) 0 _ rfl) rfl ?_
        exact WL.done ⟨_, rfl, ext_refl _, rfl, (fun h => absurd h (by decide)), (fun j h => by cases h)⟩
      · intro w29 hE
        have hE := hE rfl
        have hS := hS.grow hE
        intro RR
        refine WL.load Try.underlying3 rfl rfl (Own.vcells (hS.own (i := 2) rfl) 0 _ rfl) rfl ?_
        exact WL.done ⟨_, rfl, ext_refl _, rfl, (fun h => absurd h (by decide)), (fun j h => by cases h)⟩
      · intro w30 hE
        have hE := hE rfl
        have hS := hS.grow hE
        rintro _ rfl
        rintro _ rfl
        rintro _ rfl
        intro RR
        refine WL.call Try.func74 rfl Try.nm74 rfl rfl (calls_un (ok_Mul (GFR.ext (GFR.norm hgg) hS.ext) o33)) ?_
        rintro _ w32 ⟨_, hGw32, hRww32, hNww32, r31q, rfl, rfl, he⟩
        subst he
        exact WL.done ⟨_, rfl, hGw32, rfl, (fun h => absurd h (by decide)), (fun j h => by cases h)⟩
      · intro w34 hE
        intro RR
        refine WL.move rfl rfl ?_
        exact WL.done ⟨_, rfl, rfl, rfl, (fun h => absurd h (by decide)), (fun j h => by cases h)⟩
    · intro vals w35 hT hVs hAp hCp
      have hS := hS.grow hT
      have hv0 : vals 0 = _ := hVs 0 (by decide)
      have hv1 : vals 1 = _ := hVs 1 (by decide)
      have hv2 : vals 2 = _ := hVs 2 (by decide)
      have hv3 : vals 3 = _ := hVs 3 (by decide)
      have hv4 : vals 4 = _ := hVs 4 (by decide)
      have hv5 : vals 5 = _ := hVs 5 (by decide)
      rw [show (List.filterMap (fun i => Option.map (fun t => (t, vals i)) (dstAt _ i)) (List.range _)) = [(14, .pointer (some ag)), (15, .pointer (some ag)), (16, .int .i64 z23), (17, .int .i64 x), (18, .int .i64 r31), (19, .int .i64 (gi p ((p.length - 1 - i20 : Nat) : Int)))] from by
        show [(14, vals 0), (15, vals 1), (16, vals 2), (17, vals 3), (18, vals 4), (19, vals 5)] = _
        rw [hv0, hv1, hv2, hv3, hv4, hv5]]
      refine WA.step [6] (by decide +kernel) rfl ?_
      intro iQ hQ
      simp only [List.mem_cons, List.not_mem_nil, or_false] at hQ
      obtain rfl := hQ
      refine ⟨_, rfl, ?_⟩
      refine SL.call hS (ok_Add (GFR.ext (GFR.norm hgg) hS.ext) hv) Try.func67 rfl Try.nm67 rfl rfl ?_
      rintro _ _ w36 ⟨r37, rfl, rfl, hv⟩ hGw36 hS
      change St _ _ _ _ [.row 22 1 (some ⟨g19, 0, none⟩) 1 1 [.slice Ap p.length kp], .row 3 1 (some ⟨g15, 0, none⟩) 1 1 [.int .i64 z23], .row 3 1 (some ⟨g13, 0, none⟩) 1 1 [.int .i64 x], .row 26 1 (some ⟨g11, 0, none⟩) 1 1 [.pointer (some ag)]] at hS
      refine WL.done ?_
      refine WA.step [7] (by decide +kernel) rfl ?_
      intro iQ hQ
      simp only [List.mem_cons, List.not_mem_nil, or_false] at hQ
      obtain rfl := hQ
      refine ⟨_, rfl, ?_⟩
      refine SL.store (cs' := [.int .i64 r37]) 1 0 hS rfl Try.el3 rfl rfl rfl (of_ble rfl) rfl ?_
      intro w38 hS
      refine WL.done ?_
      refine WA.done (by decide +kernel) ?_
      change St _ _ _ _ [.row 22 1 (some ⟨g19, 0, none⟩) 1 1 [.slice Ap p.length kp], .row 3 1 (some ⟨g15, 0, none⟩) 1 1 [.int .i64 r37], .row 3 1 (some ⟨g13, 0, none⟩) 1 1 [.int .i64 x], .row 26 1 (some ⟨g11, 0, none⟩) 1 1 [.pointer (some ag)]] at hS
      exact ⟨r37, hv, hS⟩
  · rintro D39 z23 w40 hv hD hS
    have hv := hd42 z23 hv
    refine W.seq ?_
    refine W.region ?_
    refine WL.load Try.underlying3 rfl rfl (Own.vcells (hS.own (i := 2) rfl) 0 _ rfl) rfl ?_
    refine WL.assign rfl rfl ?_
    refine WL.done ?_
    refine W.ret ?_
    have hS := hS.pick [0] rfl
    obtain ⟨hDD39, hS⟩ := hS.taken trivial
    refine ⟨_, rfl, Fin.cons hDD39 (Fin.nil ?_)⟩
    exact ⟨_, hS.ext, (hS.pick [] rfl).rows, News.of (hS.pick [] rfl).rows rfl, ⟨z23, rfl, rfl, hv⟩⟩
  · rintro _ e _ _ _ hv; exact hv.elim

def V_fromRoots (Fg : GFv) (rs : List Int) (Q : List Int → Prop) : Prop :=
  ∃ (I29 : List Int → Int → Prop) (μ30 : List Int → Int → Nat), I29 ([(1 : Int)] : List Int) (0 : Int) ∧ ∀ (x24 : List Int) (z28 : Int), (I29 x24 z28 → (((z28 < ((rs.length : Nat) : Int)) → ((0 ≤ z28 ∧ z28 < (rs.length : Nat)) ∧ (V_Neg Fg (gi rs z28) (fun r35 => V_times Fg x24 ([r35, (1 : Int)] : List Int) (fun x40 => (I64 (z28 + (1 : Int))) ∧ (I29 x40 (z28 + (1 : Int)) ∧ μ30 x40 (z28 + (1 : Int)) < μ30 x24 z28)))))) ∧ (¬ (z28 < ((rs.length : Nat) : Int)) → Q x24)))
theorem ok_fromRoots {w : World} {Q : List Int → Prop} {Fg : GFv} {rs : List Int} {ag : Addr} {Bg : Nat} (hgg : GFR Bg w ag Fg) {Brs : Nat} {Ars : Option Addr} {nrs krs : Nat} (hrs : Rd Brs w 1 Ars nrs krs (is rs)) (hv : V_fromRoots Fg rs Q) :
    Calls Try.prog 48 #[.pointer (some ag), .slice Ars nrs krs] w fun e w' => ∃ v Qr, e = .returned v ∧ w.grownBy w' none ∧ Rows w.heap.size none w' Qr ∧ News w.heap.size Qr ∧ ∃ (r0 : List Int) (Ar0 : Option Addr) (cr0 : Nat), v = .slice Ar0 r0.length cr0 ∧ Qr = [.row 3 1 Ar0 r0.length cr0 (is r0)] ∧ Q r0 := by
  have hgg_ := hgg
  obtain ⟨Ag_mod, kg_mod, Ag_exp, kg_exp, Ag_log, kg_log, Ag_above, kg_above, hg_c, hg_mod, hg_exp, hg_log, hg_above⟩ := hgg_
  have hnrs := hrs.ilen
  subst hnrs
  refine calls_swap ?_
  refine calls_of_W (vs := [.pointer (some ag), .slice Ars rs.length krs]) [4] Try.func48 rfl rfl rfl rfl ?_
  have hS := St.start w
  unfold V_fromRoots at hv
  refine W.seq ?_
  refine W.region ?_
  refine WL.assign rfl rfl ?_
  refine WL.done ?_
  refine W.seq ?_
  refine W.region ?_
  refine SL.lit1 (vs := is ([(1 : Int)] : List Int)) hS Try.underlying22 Try.el3 rfl rfl rfl rfl (is_one _) rfl ?_
  intro A11 w12 hS
  refine WL.assign rfl rfl ?_
  refine WL.done ?_
  refine W.seq ?_
  refine W.seq ?_
  refine W.region ?_
  refine WL.move rfl rfl ?_
  refine WL.len Try.underlying22 rfl rfl ?_
  refine WL.move rfl rfl ?_
  refine WL.done ?_
  refine W.block ?_
  obtain ⟨I29, μ30, hv, hk45⟩ := hv
  have hm0 : 1 = ([(1 : Int)] : List Int).length := (hS.rd (i := 0) rfl).ilen.symm
  have hS := hS.relen (i := 0) rfl hm0
  change St _ _ _ _ [.row 3 1 A11 ([(1 : Int)] : List Int).length 1 (is ([(1 : Int)] : List Int))] at hS
  refine W.loop (σ := List Int × Int × Option Addr × Nat) (fun q w1 => match q with | (x24, z28, A25, k26) => I29 x24 z28 ∧ St TT w none w1 [.row 3 1 A25 x24.length k26 (is x24)]) (fun q => match q with | (x24, z28, A25, k26) => [(0, .pointer (some ag)), (4, .slice none 0 0), (5, .slice A25 x24.length k26), (9, .slice Ars rs.length krs), (10, .int .i64 ((rs.length : Nat) : Int)), (11, .int .i64 z28)]) (fun q => match q with | (x24, z28, A25, k26) => μ30 x24 z28) (([(1 : Int)] : List Int), (0 : Int), A11, 1) ⟨hv, hS⟩ ⟨rfl, rfl, (sm (by first | rfl | assumption | omega)), rfl, rfl, rfl, trivial⟩ ?_
  rintro ⟨x24, z28, A25, k26⟩ w31 ⟨hv, hS⟩
  have hv := hk45 x24 z28 hv
  refine W.seq ?_
  refine W.region ?_
  refine WL.lssD rfl rfl rfl ?_
  refine WL.done ?_
  refine W.seq ?_
  refine W.cond2 rfl (fun c32 => ?_) (fun c32 => ?_)
  · have hv := hv.1 (of_decide_eq_true c32)
    refine W.skip ?_
    refine W.seq ?_
    refine W.block ?_
    refine W.seq ?_
    refine W.region ?_
    obtain ⟨o33, hv⟩ := hv
    refine SL.index Try.underlying22 Try.el3 (hS.ro hrs) rfl rfl o33 rfl ?_
    refine WL.load Try.underlying3 rfl rfl (Rd.gi (hS.ro hrs) o33) rfl ?_
    refine WL.assign rfl rfl ?_
    refine WL.done ?_
    refine W.region ?_
    refine WL.move rfl rfl ?_
    refine WL.move rfl rfl ?_
    refine WL.move rfl rfl ?_
    refine WL.move rfl rfl ?_
    refine SL.call hS (ok_Neg (GFR.ext (GFR.norm hgg) hS.ext) hv) Try.func76 rfl Try.nm76 rfl rfl ?_
    rintro _ _ w34 ⟨r35, rfl, rfl, hv⟩ hGw34 hS
    change St _ _ _ _ [.row 3 1 A25 x24.length k26 (is x24)] at hS
    refine SL.lit1 (vs := is ([r35, (1 : Int)] : List Int)) hS Try.underlying22 Try.el3 rfl rfl rfl rfl (is_one _) rfl ?_
    intro A36 w37 hS
    refine SL.call hS (ok_times (GFR.ext (GFR.norm hgg) hS.ext) (hS.rd (i := 1) rfl) (hS.rd (i := 0) rfl) hv) Try.func70 rfl Try.nm70 rfl rfl ?_
    rintro _ _ w39 ⟨x40, A41, k42, rfl, rfl, hv⟩ hGw39 hS
    change St _ _ _ _ [.row 3 1 A41 x40.length k42 (is x40), .row 3 1 A36 2 2 (is ([r35, (1 : Int)] : List Int)), .row 3 1 A25 x24.length k26 (is x24)] at hS
    refine WL.assign rfl rfl ?_
    refine WL.done ?_
    refine W.region ?_
    obtain ⟨o44, hv⟩ := hv
    refine WL.add (r := (z28 + (1 : Int))) rfl rfl (wr o44) rfl ?_
    refine WL.move rfl rfl ?_
    refine WL.done ?_
    have hS := hS.pick [0] rfl
    change St _ _ _ _ [.row 3 1 A41 x40.length k42 (is x40)] at hS
    exact ⟨(x40, (z28 + (1 : Int)), A41, k42), ⟨rfl, rfl, rfl, rfl, rfl, rfl, trivial⟩, hv.2, rfl, hv.1, hS⟩
  · have hv := hv.2 (of_decide_eq_false c32)
    refine W.exit ?_
    refine W.seq ?_
    refine W.region ?_
    refine WL.move rfl rfl ?_
    refine WL.assign rfl rfl ?_
    refine WL.done ?_
    refine W.ret ?_
    refine ⟨_, rfl, Fin.nil ?_⟩
    exact ⟨_, hS.ext, (hS.pick [0] rfl).rows, News.of (hS.pick [0] rfl).rows rfl, ⟨x24, A25, k26, rfl, rfl, hv⟩⟩

def V_interp (Fg : GFv) (xs : List Int) (ys : List Int) (Q : List Int × Int → Prop) : Prop :=
  ((((xs.length : Nat) : Int) ≠ ((ys.length : Nat) : Int)) → (Q (([] : List Int), (3 : Int)))) ∧ (¬ (((xs.length : Nat) : Int) ≠ ((ys.length : Nat) : Int)) → (∃ (I42 : List Int → List Int → Int → Prop) (μ43 : List Int → List Int → Int → Nat), I42 ([] : List Int) ([(1 : Int)] : List Int) (0 : Int) ∧ ∀ (x33 : List Int) (x37 : List Int) (z41 : Int), (I42 x33 x37 z41 → (((z41 < ((xs.length : Nat) : Int)) → ((0 ≤ z41 ∧ z41 < (xs.length : Nat)) ∧ ((0 ≤ z41 ∧ z41 < (ys.length : Nat)) ∧ (∃ (r58 : Int), V_eval Fg x33 (gi xs z41) (fun q => q = r58) ∧ (∃ (r62 : Int), V_Sub Fg (gi ys z41) r58 (fun q => q = r62) ∧ (∃ (r69 : Int), V_eval Fg x37 (gi xs z41) (fun q => q = r69) ∧ (∃ (r73 : Int) (r74 : Int), V_Div Fg r62 r69 (fun q => q = (r73, r74)) ∧ (((r74 ≠ (0 : Int)) → (Q (([] : List Int), (18 : Int)))) ∧ (¬ (r74 ≠ (0 : Int)) → (V_pscale Fg r73 x37 (fun x85 => V_padd Fg x33 x85 (fun x90 => V_fromRoots Fg ([(gi xs z41)] : List Int) (fun x98 => V_pmul Fg ([x37, x98] : List (List Int)) (fun x106 => (I64 (z41 + (1 : Int))) ∧ (I42 x90 x106 (z41 + (1 : Int)) ∧ μ43 x90 x106 (z41 + (1 : Int)) < μ43 x33 x37 z41))))))))))))))) ∧ (¬ (z41 < ((xs.length : Nat) : Int)) → (Q (x33, (0 : Int))))))))
theorem ok_interp {w : World} {Q : List Int × Int → Prop} {Fg : GFv} {xs : List Int} {ys : List Int} {ag : Addr} {Bg : Nat} (hgg : GFR Bg w ag Fg) {Bxs : Nat} {Axs : Option Addr} {nxs kxs : Nat} (hxs : Rd Bxs w 1 Axs nxs kxs (is xs)) {Bys : Nat} {Ays : Option Addr} {nys kys : Nat} (hys : Rd Bys w 1 Ays nys kys (is ys)) (hv : V_interp Fg xs ys Q) :
    Calls Try.prog 55 #[.pointer (some ag), .slice Axs nxs kxs, .slice Ays nys kys] w fun e w' => ∃ v Qr, e = .returned v ∧ w.grownBy w' none ∧ Rows w.heap.size none w' Qr ∧ News w.heap.size Qr ∧ ∃ (r0 : List Int) (r1 : Int) (Ar0 : Option Addr) (cr0 : Nat), v = .tuple #[.slice Ar0 r0.length cr0, .int .i64 r1] ∧ Qr = [.row 3 1 Ar0 r0.length cr0 (is r0)] ∧ Q (r0, r1) := by
  have hgg_ := hgg
  obtain ⟨Ag_mod, kg_mod, Ag_exp, kg_exp, Ag_log, kg_log, Ag_above, kg_above, hg_c, hg_mod, hg_exp, hg_log, hg_above⟩ := hgg_
  have hnxs := hxs.ilen
  subst hnxs
  have hnys := hys.ilen
  subst hnys
  refine calls_swap ?_
  refine calls_of_W (vs := [.pointer (some ag), .slice Axs xs.length kxs, .slice Ays ys.length kys]) [6, 7] Try.func55 rfl rfl rfl rfl ?_
  have hS := St.start w
  unfold V_interp at hv
  refine W.seq ?_
  refine W.region ?_
  refine WL.assign rfl rfl ?_
  refine WL.assign rfl rfl ?_
  refine WL.done ?_
  refine W.seq ?_
  refine W.seq ?_
  refine W.region ?_
  refine WL.move rfl rfl ?_
  refine WL.len Try.underlying22 rfl rfl ?_
  refine WL.move rfl rfl ?_
  refine WL.len Try.underlying22 rfl rfl ?_
  refine WL.neqD rfl rfl rfl ?_
  refine WL.done ?_
  refine W.cond2 rfl (fun c11 => ?_) (fun c11 => ?_)
  · have hv := hv.1 (of_decide_eq_true c11)
    refine W.seq ?_
    refine W.region ?_
    refine WL.assign rfl rfl ?_
    refine WL.assign rfl rfl ?_
    refine WL.done ?_
    refine W.ret ?_
    have hS := hS.nil (e := 3) (z := 1)
    refine ⟨_, rfl, Fin.nil ?_⟩
    exact ⟨_, hS.ext, (hS.pick [0] rfl).rows, News.of (hS.pick [0] rfl).rows rfl, ⟨([] : List Int), (3 : Int), none, 0, rfl, rfl, hv⟩⟩
  · have hv := hv.2 (of_decide_eq_false c11)
    refine W.skip ?_
    refine W.seq ?_
    refine W.region ?_
    refine WL.assign rfl rfl ?_
    refine WL.done ?_
    refine W.seq ?_
    refine W.region ?_
    refine SL.lit1 (vs := is ([(1 : Int)] : List Int)) hS Try.underlying22 Try.el3 rfl rfl rfl rfl (is_one _) rfl ?_
    intro A12 w13 hS
    refine WL.assign rfl rfl ?_
    refine WL.done ?_
    refine W.seq ?_
    refine W.seq ?_
    refine W.region ?_
    refine WL.move rfl rfl ?_
    refine WL.len Try.underlying22 rfl rfl ?_
    refine WL.move rfl rfl ?_
    refine WL.done ?_
    refine W.block ?_
    obtain ⟨I42, μ43, hv, hk111⟩ := hv
    have hS := hS.nil (e := 3) (z := 1)
    have hm0 : 0 = ([] : List Int).length := (hS.rd (i := 0) rfl).ilen.symm
    have hS := hS.relen (i := 0) rfl hm0
    have hm1 : 1 = ([(1 : Int)] : List Int).length := (hS.rd (i := 1) rfl).ilen.symm
    have hS := hS.relen (i := 1) rfl hm1
    change St _ _ _ _ [.row 3 1 none ([] : List Int).length 0 (is ([] : List Int)), .row 3 1 A12 ([(1 : Int)] : List Int).length 1 (is ([(1 : Int)] : List Int))] at hS
    refine W.loop (σ := List Int × List Int × Int × Option Addr × Nat × Option Addr × Nat) (fun q w1 => match q with | (x33, x37, z41, A34, k35, A38, k39) => I42 x33 x37 z41 ∧ St TT w none w1 [.row 3 1 A34 x33.length k35 (is x33), .row 3 1 A38 x37.length k39 (is x37)]) (fun q => match q with | (x33, x37, z41, A34, k35, A38, k39) => [(0, .pointer (some ag)), (2, .slice Ays ys.length kys), (6, .slice none 0 0), (7, .int .i64 (0 : Int)), (8, .slice A34 x33.length k35), (9, .slice A38 x37.length k39), (20, .slice Axs xs.length kxs), (21, .int .i64 ((xs.length : Nat) : Int)), (22, .int .i64 z41)]) (fun q => match q with | (x33, x37, z41, A34, k35, A38, k39) => μ43 x33 x37 z41) (([] : List Int), ([(1 : Int)] : List Int), (0 : Int), none, 0, A12, 1) ⟨hv, hS⟩ ⟨rfl, rfl, rfl, rfl, (sm (by first | rfl | assumption | omega)), (sm (by first | rfl | assumption | omega)), rfl, rfl, rfl, trivial⟩ ?_
    rintro ⟨x33, x37, z41, A34, k35, A38, k39⟩ w44 ⟨hv, hS⟩
    have hv := hk111 x33 x37 z41 hv
    refine W.seq ?_
    refine W.region ?_
    refine WL.lssD rfl rfl rfl ?_
    refine WL.done ?_
    refine W.seq ?_
    refine W.cond2 rfl (fun c45 => ?_) (fun c45 => ?_)
    · have hv := hv.1 (of_decide_eq_true c45)
      refine W.skip ?_
      refine W.seq ?_
      refine W.block ?_
      refine W.seq ?_
      refine W.region ?_
      refine WL.move rfl rfl ?_
      obtain ⟨o46, hv⟩ := hv
      refine SL.index Try.underlying22 Try.el3 (hS.ro hxs) rfl rfl o46 rfl ?_
      refine WL.load Try.underlying3 rfl rfl (Rd.gi (hS.ro hxs) o46) rfl ?_
      refine WL.assign rfl rfl ?_
      refine WL.assign rfl rfl ?_
      refine WL.done ?_
      refine W.seq ?_
      obtain ⟨o52, hv⟩ := hv
      obtain ⟨r58, o60, hv⟩ := hv
      obtain ⟨r62, o64, hv⟩ := hv
      obtain ⟨r69, o71, hv⟩ := hv
      obtain ⟨r73, r74, o76, hv⟩ := hv
      have hS0 := hS
      refine W.drawX 21 (fun _ => false) (fun _ => none) [⟨[], [0], true⟩, ⟨[], [0], true⟩, ⟨[], [2], true⟩, ⟨[], [10], true⟩, ⟨[2, 3], [], true⟩, ⟨[4], [], false⟩, ⟨[], [0], true⟩, ⟨[], [8], true⟩, ⟨[], [11], true⟩, ⟨[6, 7, 8], [], false⟩, ⟨[1, 5, 9], [], false⟩, ⟨[], [0], true⟩, ⟨[], [9], true⟩, ⟨[], [11], true⟩, ⟨[11, 12, 13], [], false⟩, ⟨[0, 10, 14], [], false⟩, ⟨[15], [], true⟩, ⟨[16], [], true⟩, ⟨[16], [], true⟩, ⟨[17], [], true⟩, ⟨[18], [], true⟩] [[(0, .pointer (some ag))], [(0, .pointer (some ag))], [(2, .slice Ays ys.length kys)], [(10, .int .i64 z41)], [], [], [(0, .pointer (some ag))], [(8, .slice A34 x33.length k35)], [(11, .int .i64 (gi xs z41))], [], [], [(0, .pointer (some ag))], [(9, .slice A38 x37.length k39)], [(11, .int .i64 (gi xs z41))], [], [], [], [], [], [], []] (fun iQ => [fun v _ => v = .pointer (some ag), fun v _ => v = .pointer (some ag), fun v _ => v = .slice Ays ys.length kys, fun v _ => v = .int .i64 z41, fun v _ => v = .pointer (some ((adOf Ays).add z41.toNat)), fun v _ => v = .int .i64 (gi ys z41), fun v _ => v = .pointer (some ag), fun v _ => v = .slice A34 x33.length k35, fun v _ => v = .int .i64 (gi xs z41), fun v _ => v = .int .i64 r58, fun v _ => v = .int .i64 r62, fun v _ => v = .pointer (some ag), fun v _ => v = .slice A38 x37.length k39, fun v _ => v = .int .i64 (gi xs z41), fun v _ => v = .int .i64 r69, fun v _ => v = .tuple #[.int .i64 r73, .int .i64 r74], fun v _ => v = .tuple #[.int .i64 r73, .int .i64 r74], fun v _ => v = .int .i64 r73, fun v _ => v = .int .i64 r74, fun v _ => v = .int .i64 r73, fun v _ => v = .int .i64 r74].getD iQ (fun _ _ => True)) Try.mixed (by kernel_rfl) ?_ (by kernel_rfl) ?_ ?_
      · refine Vs_monoT _ ?_
        intro VQ hVQ vQ wQ1 wQ2 hQ1 hQ2
        simp only [List.mem_cons, List.not_mem_nil, or_false] at hVQ
        rcases hVQ with rfl | rfl | rfl | rfl | rfl | rfl | rfl | rfl | rfl | rfl | rfl | rfl | rfl | rfl | rfl | rfl | rfl | rfl | rfl | rfl | rfl
        · exact hQ1
        · exact hQ1
        · exact hQ1
        · exact hQ1
        · exact hQ1
        · exact hQ1
        · exact hQ1
        · exact hQ1
        · exact hQ1
        · exact hQ1
        · exact hQ1
        · exact hQ1
        · exact hQ1
        · exact hQ1
        · exact hQ1
        · exact hQ1
        · exact hQ1
        · exact hQ1
        · exact hQ1
        · exact hQ1
        · exact hQ1
      · refine ⟨⟨rfl, ⟨rfl, trivial⟩, ?_⟩, ⟨rfl, ⟨rfl, trivial⟩, ?_⟩, ⟨rfl, ⟨rfl, trivial⟩, ?_⟩, ⟨rfl, ⟨rfl, trivial⟩, ?_⟩, ⟨rfl, trivial, ?_⟩, ⟨rfl, trivial, ?_⟩, ⟨rfl, ⟨rfl, trivial⟩, ?_⟩, ⟨rfl, ⟨rfl, trivial⟩, ?_⟩, ⟨rfl, ⟨rfl, trivial⟩, ?_⟩, ⟨rfl, trivial, ?_⟩, ⟨rfl, trivial, ?_⟩, ⟨rfl, ⟨rfl, trivial⟩, ?_⟩, ⟨rfl, ⟨rfl, trivial⟩, ?_⟩, ⟨rfl, ⟨rfl, trivial⟩, ?_⟩, ⟨rfl, trivial, ?_⟩, ⟨rfl, trivial, ?_⟩, ⟨rfl, trivial, ?_⟩, ⟨rfl, trivial, ?_⟩, ⟨rfl, trivial, ?_⟩, ⟨rfl, trivial, ?_⟩, ⟨rfl, trivial, ?_⟩, trivial⟩
        · intro w47 hE
          intro RR
          refine WL.move rfl rfl ?_
          exact WL.done ⟨_, rfl, rfl, rfl, (fun h => absurd h (by decide)), (fun j h => by cases h)⟩
        · intro w48 hE
          intro RR
          refine WL.move rfl rfl ?_
          exact WL.done ⟨_, rfl, rfl, rfl, (fun h => absurd h (by decide)), (fun j h => by cases h)⟩
        · intro w49 hE
          intro RR
          refine WL.move rfl rfl ?_
          exact WL.done ⟨_, rfl, rfl, rfl, (fun h => absurd h (by decide)), (fun j h => by cases h)⟩
        · intro w50 hE
          intro RR
          refine WL.move rfl rfl ?_
          exact WL.done ⟨_, rfl, rfl, rfl, (fun h => absurd h (by decide)), (fun j h => by cases h)⟩
        · intro w51 hE
          rintro _ rfl
          rintro _ rfl
          intro RR
          refine SL.index Try.underlying22 Try.el3 (hS.ro hys) rfl rfl o52 rfl ?_
          exact WL.done ⟨_, rfl, rfl, rfl, (fun h => absurd h (by decide)), (fun j h => by cases h)⟩
        · intro w53 hE
          have hE := hE rfl
          have hS := hS.grow hE
          rintro _ rfl
          intro RR
          refine WL.load Try.underlying3 rfl rfl (Rd.gi (hS.ro hys) o52) rfl ?_
          exact WL.done ⟨_, rfl, ext_refl _, rfl, (fun h => absurd h (by decide)), (fun j h => by cases h)⟩
        · intro w54 hE
          intro RR
          refine WL.move rfl rfl ?_
          exact WL.done ⟨_, rfl, rfl, rfl, (fun h => absurd h (by decide)), (fun j h => by cases h)⟩
        · intro w55 hE
          intro RR
          refine WL.move rfl rfl ?_
          exact WL.done ⟨_, rfl, rfl, rfl, (fun h => absurd h (by decide)), (fun j h => by cases h)⟩
        · intro w56 hE
          intro RR
          refine WL.move rfl rfl ?_
          exact WL.done ⟨_, rfl, rfl, rfl, (fun h => absurd h (by decide)), (fun j h => by cases h)⟩
        · intro w57 hE
          have hE := hE rfl
          have hS := hS.grow hE
          rintro _ rfl
          rintro _ rfl
          rintro _ rfl
          intro RR
          refine WL.call Try.func44 rfl Try.nm44 rfl rfl (calls_un (ok_eval (GFR.ext (GFR.norm hgg) hS.ext) (hS.rd (i := 0) rfl) o60)) ?_
          rintro _ w59 ⟨_, hGw59, hRww59, hNww59, r58q, rfl, rfl, he⟩
          subst he
          exact WL.done ⟨_, rfl, hGw59, rfl, (fun h => absurd h (by decide)), (fun j h => by cases h)⟩
        · intro w61 hE
          have hE := hE rfl
          have hS := hS.grow hE
          rintro _ rfl
          rintro _ rfl
          rintro _ rfl
          intro RR
          refine WL.call Try.func68 rfl Try.nm68 rfl rfl (calls_un (ok_Sub (GFR.ext (GFR.norm hgg) hS.ext) o64)) ?_
          rintro _ w63 ⟨_, hGw63, hRww63, hNww63, r62q, rfl, rfl, he⟩
          subst he
          exact WL.done ⟨_, rfl, hGw63, rfl, (fun h => absurd h (by decide)), (fun j h => by cases h)⟩
        · intro w65 hE
          intro RR
          refine WL.move rfl rfl ?_
          exact WL.done ⟨_, rfl, rfl, rfl, (fun h => absurd h (by decide)), (fun j h => by cases h)⟩
        · intro w66 hE
          intro RR
          refine WL.move rfl rfl ?_
          exact WL.done ⟨_, rfl, rfl, rfl, (fun h => absurd h (by decide)), (fun j h => by cases h)⟩
        · intro w67 hE
          intro RR
          refine WL.move rfl rfl ?_
          exact WL.done ⟨_, rfl, rfl, rfl, (fun h => absurd h (by decide)), (fun j h => by cases h)⟩
        · intro w68 hE
          have hE := hE rfl
          have hS := hS.grow hE
          rintro _ rfl
          rintro _ rfl
          rintro _ rfl
          intro RR
          refine WL.call Try.func44 rfl Try.nm44 rfl rfl (calls_un (ok_eval (GFR.ext (GFR.norm hgg) hS.ext) (hS.rd (i := 1) rfl) o71)) ?_
          rintro _ w70 ⟨_, hGw70, hRww70, hNww70, r69q, rfl, rfl, he⟩
          subst he
          exact WL.done ⟨_, rfl, hGw70, rfl, (fun h => absurd h (by decide)), (fun j h => by cases h)⟩
        · intro w72 hE
          have hE := hE rfl
          have hS := hS.grow hE
          rintro _ rfl
          rintro _ rfl
          rintro _ rfl
          intro RR
          refine WL.call Try.func85 rfl Try.nm85 rfl rfl (calls_un (ok_Div (GFR.ext (GFR.norm hgg) hS.ext) o76)) ?_
          rintro _ w75 ⟨_, hGw75, hRww75, hNww75, r73q, r74q, rfl, rfl, he⟩
          cases he
          exact WL.done ⟨_, rfl, hGw75, rfl, (fun h => absurd h (by decide)), (fun j h => by cases h)⟩
        · intro w77 hE
          rintro _ rfl
          intro RR
          refine WL.move rfl rfl ?_
          exact WL.done ⟨_, rfl, rfl, rfl, (fun h => absurd h (by decide)), (fun j h => by cases h)⟩
        · intro w78 hE
          rintro _ rfl
          intro RR
          refine WL.extract rfl rfl rfl ?_
          exact WL.done ⟨_, rfl, rfl, rfl, (fun h => absurd h (by decide)), (fun j h => by cases h)⟩
        · intro w79 hE
          rintro _ rfl
          intro RR
          refine WL.extract rfl rfl rfl ?_
          exact WL.done ⟨_, rfl, rfl, rfl, (fun h => absurd h (by decide)), (fun j h => by cases h)⟩
        · intro w80 hE
          rintro _ rfl
          intro RR
          refine WL.assign rfl rfl ?_
          exact WL.done ⟨_, rfl, rfl, rfl, (fun h => absurd h (by decide)), (fun j h => by cases h)⟩
        · intro w81 hE
          rintro _ rfl
          intro RR
          refine WL.assign rfl rfl ?_
          exact WL.done ⟨_, rfl, rfl, rfl, (fun h => absurd h (by decide)), (fun j h => by cases h)⟩
      · intro vals w82 hT hVs hAp hCp
        have hS := hS.grow hT
        have hv0 : vals 0 = _ := hVs 0 (by decide)
        have hv1 : vals 1 = _ := hVs 1 (by decide)
        have hv2 : vals 2 = _ := hVs 2 (by decide)
        have hv3 : vals 3 = _ := hVs 3 (by decide)
        have hv4 : vals 4 = _ := hVs 4 (by decide)
        have hv5 : vals 5 = _ := hVs 5 (by decide)
        have hv6 : vals 6 = _ := hVs 6 (by decide)
        have hv7 : vals 7 = _ := hVs 7 (by decide)
        have hv8 : vals 8 = _ := hVs 8 (by decide)
        have hv9 : vals 9 = _ := hVs 9 (by decide)
        have hv10 : vals 10 = _ := hVs 10 (by decide)
        have hv11 : vals 11 = _ := hVs 11 (by decide)
        have hv12 : vals 12 = _ := hVs 12 (by decide)
        have hv13 : vals 13 = _ := hVs 13 (by decide)
        have hv14 : vals 14 = _ := hVs 14 (by decide)
        have hv15 : vals 15 = _ := hVs 15 (by decide)
        have hv16 : vals 16 = _ := hVs 16 (by decide)
        have hv17 : vals 17 = _ := hVs 17 (by decide)
        have hv18 : vals 18 = _ := hVs 18 (by decide)
        have hv19 : vals 19 = _ := hVs 19 (by decide)
        have hv20 : vals 20 = _ := hVs 20 (by decide)
        rw [show (List.filterMap (fun i => Option.map (fun t => (t, vals i)) (dstAt _ i)) (List.range _)) = [(28, .pointer (some ag)), (29, .pointer (some ag)), (30, .slice Ays ys.length kys), (31, .int .i64 z41), (32, .pointer (some ((adOf Ays).add z41.toNat))), (33, .int .i64 (gi ys z41)), (34, .pointer (some ag)), (35, .slice A34 x33.length k35), (36, .int .i64 (gi xs z41)), (37, .int .i64 r58), (38, .int .i64 r62), (39, .pointer (some ag)), (40, .slice A38 x37.length k39), (41, .int .i64 (gi xs z41)), (42, .int .i64 r69), (43, .tuple #[.int .i64 r73, .int .i64 r74]), (27, .tuple #[.int .i64 r73, .int .i64 r74]), (44, .int .i64 r73), (45, .int .i64 r74), (12, .int .i64 r73), (13, .int .i64 r74)] from by
          show [(28, vals 0), (29, vals 1), (30, vals 2), (31, vals 3), (32, vals 4), (33, vals 5), (34, vals 6), (35, vals 7), (36, vals 8), (37, vals 9), (38, vals 10), (39, vals 11), (40, vals 12), (41, vals 13), (42, vals 14), (43, vals 15), (27, vals 16), (44, vals 17), (45, vals 18), (12, vals 19), (13, vals 20)] = _
          rw [hv0, hv1, hv2, hv3, hv4, hv5, hv6, hv7, hv8, hv9, hv10, hv11, hv12, hv13, hv14, hv15, hv16, hv17, hv18, hv19, hv20]]
        refine WA.done (by decide +kernel) ?_
        refine W.seq ?_
        refine W.seq ?_
        refine W.region ?_
        refine WL.move rfl rfl ?_
        refine WL.neqD rfl rfl rfl ?_
        refine WL.done ?_
        refine W.cond2 rfl (fun c83 => ?_) (fun c83 => ?_)
        · have hv := hv.1 (of_decide_eq_true c83)
          refine W.seq ?_
          refine W.region ?_
          refine WL.assign rfl rfl ?_
          refine WL.assign rfl rfl ?_
          refine WL.done ?_
          refine W.ret ?_
          have hS := hS.nil (e := 3) (z := 1)
          refine ⟨_, rfl, Fin.nil ?_⟩
          exact ⟨_, hS.ext, (hS.pick [0] rfl).rows, News.of (hS.pick [0] rfl).rows rfl, ⟨([] : List Int), (18 : Int), none, 0, rfl, rfl, hv⟩⟩
        · have hv := hv.2 (of_decide_eq_false c83)
          refine W.skip ?_
          refine W.seq ?_
          refine W.region ?_
          refine WL.move rfl rfl ?_
          refine WL.move rfl rfl ?_
          refine WL.move rfl rfl ?_
          refine WL.move rfl rfl ?_
          refine WL.move rfl rfl ?_
          refine SL.call hS (ok_pscale (GFR.ext (GFR.norm hgg) hS.ext) (hS.rd (i := 1) rfl) hv) Try.func33 rfl Try.nm33 rfl rfl ?_
          rintro _ _ w84 ⟨x85, A86, k87, rfl, rfl, hv⟩ hGw84 hS
          change St _ _ _ _ [.row 3 1 A86 x85.length k87 (is x85), .row 3 1 A34 x33.length k35 (is x33), .row 3 1 A38 x37.length k39 (is x37)] at hS
          refine SL.call hS (ok_padd (GFR.ext (GFR.norm hgg) hS.ext) (hS.rd (i := 1) rfl) (hS.rd (i := 0) rfl) hv) Try.func27 rfl Try.nm27 rfl rfl ?_
          rintro _ _ w89 ⟨x90, A91, k92, rfl, rfl, hv⟩ hGw89 hS
          change St _ _ _ _ [.row 3 1 A91 x90.length k92 (is x90), .row 3 1 A86 x85.length k87 (is x85), .row 3 1 A34 x33.length k35 (is x33), .row 3 1 A38 x37.length k39 (is x37)] at hS
          refine WL.assign rfl rfl ?_
          refine WL.done ?_
          refine W.region ?_
          refine WL.move rfl rfl ?_
          refine WL.move rfl rfl ?_
          refine WL.move rfl rfl ?_
          refine WL.move rfl rfl ?_
          refine SL.lit1 (vs := is ([(gi xs z41)] : List Int)) hS Try.underlying22 Try.el3 rfl rfl rfl rfl (is_one _) rfl ?_
          intro A94 w95 hS
          refine SL.call hS (ok_fromRoots (GFR.ext (GFR.norm hgg) hS.ext) (hS.rd (i := 0) rfl) hv) Try.func48 rfl Try.nm48 rfl rfl ?_
          rintro _ _ w97 ⟨x98, A99, k100, rfl, rfl, hv⟩ hGw97 hS
          change St _ _ _ _ [.row 3 1 A99 x98.length k100 (is x98), .row 3 1 A94 1 1 (is ([(gi xs z41)] : List Int)), .row 3 1 A91 x90.length k92 (is x90), .row 3 1 A86 x85.length k87 (is x85), .row 3 1 A34 x33.length k35 (is x33), .row 3 1 A38 x37.length k39 (is x37)] at hS
          refine SL.lit1 (vs := [.slice A38 x37.length k39, .slice A99 x98.length k100]) hS Try.underlying37 Try.el22 rfl rfl rfl rfl (by simp [Value.oneCell']) rfl ?_
          intro A102 w103 hS
          refine SL.call hS (ok_pmul (GFR.ext (GFR.norm hgg) hS.ext) (fs := ([x37, x98] : List (List Int))) ⟨_, _, (hS.rd (i := 0) rfl), ⟨⟨_, _, _, rfl, (Rd.is_m (hS.rd (i := 6) rfl))⟩, ⟨_, _, _, rfl, (Rd.is_m (hS.rd (i := 1) rfl))⟩, trivial⟩⟩ hv) Try.func32 rfl Try.nm32 rfl rfl ?_
          rintro _ _ w105 ⟨x106, A107, k108, rfl, rfl, hv⟩ hGw105 hS
          change St _ _ _ _ [.row 3 1 A107 x106.length k108 (is x106), .row 22 1 A102 2 2 [.slice A38 x37.length k39, .slice A99 x98.length k100], .row 3 1 A99 x98.length k100 (is x98), .row 3 1 A94 1 1 (is ([(gi xs z41)] : List Int)), .row 3 1 A91 x90.length k92 (is x90), .row 3 1 A86 x85.length k87 (is x85), .row 3 1 A34 x33.length k35 (is x33), .row 3 1 A38 x37.length k39 (is x37)] at hS
          refine WL.assign rfl rfl ?_
          refine WL.done ?_
          refine W.region ?_
          obtain ⟨o110, hv⟩ := hv
          refine WL.add (r := (z41 + (1 : Int))) rfl rfl (wr o110) rfl ?_
          refine WL.move rfl rfl ?_
          refine WL.done ?_
          have hS := hS.pick [4, 0] rfl
          change St _ _ _ _ [.row 3 1 A91 x90.length k92 (is x90), .row 3 1 A107 x106.length k108 (is x106)] at hS
          exact ⟨(x90, x106, (z41 + (1 : Int)), A91, k92, A107, k108), ⟨rfl, rfl, rfl, rfl, rfl, rfl, rfl, rfl, rfl, trivial⟩, hv.2, rfl, hv.1, hS⟩
    · have hv := hv.2 (of_decide_eq_false c45)
      refine W.exit ?_
      refine W.seq ?_
      refine W.region ?_
      refine WL.move rfl rfl ?_
      refine WL.assign rfl rfl ?_
      refine WL.assign rfl rfl ?_
      refine WL.done ?_
      refine W.ret ?_
      refine ⟨_, rfl, Fin.nil ?_⟩
      exact ⟨_, hS.ext, (hS.pick [0] rfl).rows, News.of (hS.pick [0] rfl).rows rfl, ⟨x33, (0 : Int), A34, k35, rfl, rfl, hv⟩⟩

end Go.Proofs.Ytmdigamgojfjdaa
set_option linter.unusedSimpArgs false
set_option linter.unusedVariables false
namespace Go.Proofs.Ytmdigamgojfjdaa
open Go.RowKit
def V_PolyInterpolates (Pf : Int) (Mf : Int) (mf : List Int) (xs : List Int) (ys : List Int) (Q : Bool → Prop) : Prop :=
  V_alive  (fun r14 => (((!r14) = true) → Q false) ∧ ((!r14) = false → (V_made Pf Mf mf (fun q => match q with | none => Q true | some F19 => V_short ([xs, ys] : List (List Int)) (fun r29 => (((!r29) = true) → Q true) ∧ ((!r29) = false → (V_interp F19 xs ys (fun q => match q with | (x32, r36) => ((((xs.length : Nat) : Int) ≠ ((ys.length : Nat) : Int)) → (((r36 = (3 : Int)) → (Q (decide (((x32.length : Nat) : Int) = (0 : Int))))) ∧ (¬ (r36 = (3 : Int)) → Q false))) ∧ (¬ (((xs.length : Nat) : Int) ≠ ((ys.length : Nat) : Int)) → (∃ (I42 : Int → Prop) (μ43 : Int → Nat), I42 (0 : Int) ∧ ∀ (z41 : Int), (I42 z41 → (((z41 < ((xs.length : Nat) : Int)) → (∃ (I49 : Int → Prop) (μ50 : Int → Nat), I49 (0 : Int) ∧ ∀ (z48 : Int), (I49 z48 → (((z48 < z41) → ((0 ≤ z41 ∧ z41 < (xs.length : Nat)) ∧ (∃ (r60 : Int), V_rIn Pf Mf mf (gi xs z41) (fun q => q = r60) ∧ ((0 ≤ z48 ∧ z48 < (xs.length : Nat)) ∧ (∃ (r70 : Int), V_rIn Pf Mf mf (gi xs z48) (fun q => q = r70) ∧ (((r60 = r70) → (((r36 = (18 : Int)) → (Q (decide (((x32.length : Nat) : Int) = (0 : Int))))) ∧ (¬ (r36 = (18 : Int)) → Q false))) ∧ (¬ (r60 = r70) → ((I64 (z48 + (1 : Int))) ∧ (I49 (z48 + (1 : Int)) ∧ μ50 (z48 + (1 : Int)) < μ50 z48))))))))) ∧ (¬ (z48 < z41) → ((I64 (z41 + (1 : Int))) ∧ (I42 (z41 + (1 : Int)) ∧ μ43 (z41 + (1 : Int)) < μ43 z41))))))) ∧ (¬ (z41 < ((xs.length : Nat) : Int)) → (((r36 ≠ (0 : Int)) → Q false) ∧ (¬ (r36 ≠ (0 : Int)) → (((((xs.length : Nat) : Int) < ((x32.length : Nat) : Int)) → Q false) ∧ (¬ (((xs.length : Nat) : Int) < ((x32.length : Nat) : Int)) → (V_rcanon Pf Mf mf x32 (fun x83 => V_lsame x32 x83 (fun r88 => (((!r88) = true) → Q false) ∧ ((!r88) = false → (∃ (I93 : Int → Prop) (μ94 : Int → Nat), I93 (0 : Int) ∧ ∀ (z92 : Int), (I93 z92 → (((z92 < ((xs.length : Nat) : Int)) → ((0 ≤ z92 ∧ z92 < (xs.length : Nat)) ∧ (∃ (r105 : Int), V_reval Pf Mf mf x32 (gi xs z92) (fun q => q = r105) ∧ ((0 ≤ z92 ∧ z92 < (ys.length : Nat)) ∧ (∃ (r115 : Int), V_rIn Pf Mf mf (gi ys z92) (fun q => q = r115) ∧ (((r105 ≠ r115) → Q false) ∧ (¬ (r105 ≠ r115) → ((I64 (z92 + (1 : Int))) ∧ (I93 (z92 + (1 : Int)) ∧ μ94 (z92 + (1 : Int)) < μ94 z92))))))))) ∧ (¬ (z92 < ((xs.length : Nat) : Int)) → Q true)))))))))))))))))))))))))
theorem ok_PolyInterpolates {w : World} {Q : Bool → Prop} {Pf : Int} {Mf : Int} {mf : List Int} {xs : List Int} {ys : List Int} {Bf : Nat} {Af : Option Addr} {nf kf : Nat} (hf : Rd Bf w 1 Af nf kf (is mf)) {Bxs : Nat} {Axs : Option Addr} {nxs kxs : Nat} (hxs : Rd Bxs w 1 Axs nxs kxs (is xs)) {Bys : Nat} {Ays : Option Addr} {nys kys : Nat} (hys : Rd Bys w 1 Ays nys kys (is ys)) (hv : V_PolyInterpolates Pf Mf mf xs ys Q) :
    Calls Try.prog 16 #[.agg #[.int .i64 Pf, .int .i64 Mf, .slice Af nf kf], .slice Axs nxs kxs, .slice Ays nys kys] w fun e w' => ∃ v Qr, e = .returned v ∧ w.grownBy w' none ∧ Rows w.heap.size none w' Qr ∧ News w.heap.size Qr ∧ ∃ (r0 : Bool), v = .bool r0 ∧ Qr = [] ∧ Q r0 := by
  have hnf := hf.ilen
  subst hnf
  have hnxs := hxs.ilen
  subst hnxs
  have hnys := hys.ilen
  subst hnys
  refine calls_swap ?_
  refine calls_of_W (vs := [.agg #[.int .i64 Pf, .int .i64 Mf, .slice Af mf.length kf], .slice Axs xs.length kxs, .slice Ays ys.length kys]) [6] Try.func16 rfl rfl rfl rfl ?_
  have hS := St.start w
  unfold V_PolyInterpolates at hv
  refine W.seq ?_
  refine W.region ?_
  refine SL.box (z := 3) (cs := [.int .i64 Pf, .int .i64 Mf, .slice Af mf.length kf]) hS rfl rfl rfl rfl ?_
  intro g11 w12 hS
  refine WL.assign rfl rfl ?_
  refine WL.done ?_
  refine W.seq ?_
  refine W.seq ?_
  refine W.region ?_
  refine SL.call hS (ok_alive  hv) Try.func20 rfl Try.nm20 rfl rfl ?_
  rintro _ _ w13 ⟨r14, rfl, rfl, hv⟩ hGw13 hS
  change St _ _ _ _ [.row 24 3 (some ⟨g11, 0, none⟩) 1 1 [.int .i64 Pf, .int .i64 Mf, .slice Af mf.length kf]] at hS
  refine WL.not rfl rfl ?_
  refine WL.done ?_
  refine W.cond2 rfl (fun c15 => ?_) (fun c15 => ?_)
  · have hv := hv.1 (c15)
    refine W.seq ?_
    refine W.region ?_
    refine WL.assign rfl rfl ?_
    refine WL.done ?_
    refine W.ret ?_
    refine ⟨_, rfl, Fin.nil ?_⟩
    exact ⟨_, hS.ext, (hS.pick [] rfl).rows, News.of (hS.pick [] rfl).rows rfl, ⟨false, rfl, rfl, hv⟩⟩
  · have hv := hv.2 (c15)
    refine W.skip ?_
    refine W.seq ?_
    refine W.region ?_
    refine WL.loadV (cs := [.int .i64 Pf, .int .i64 Mf, .slice Af mf.length kf]) Try.el24 Try.agg24 rfl rfl (Own.vcells (hS.own (i := 0) rfl)) rfl ?_
    refine SL.call hS (ok_made (hS.ro hf) hv) Try.func21 rfl Try.nm21 rfl rfl ?_
    rintro _ _ w17 ⟨o, hv, hK⟩ hGw17 hS
    cases o with
    | none =>
      obtain ⟨rfl, rfl⟩ := hK
      change St _ _ _ _ [.row 24 3 (some ⟨g11, 0, none⟩) 1 1 [.int .i64 Pf, .int .i64 Mf, .slice Af mf.length kf]] at hS
      refine WL.assign rfl rfl ?_
      refine WL.done ?_
      refine W.seq ?_
      refine W.seq ?_
      refine W.region ?_
      refine WL.move rfl rfl ?_
      refine WL.eqlPn Try.underlying26 rfl rfl rfl rfl ?_
      refine WL.move rfl rfl ?_
      refine WL.pass rfl rfl rfl ?_
      refine WL.pass rfl rfl rfl ?_
      refine WL.pass rfl rfl rfl ?_
      refine WL.pass rfl rfl rfl ?_
      refine WL.pass rfl rfl rfl ?_
      refine WL.pick rfl rfl rfl ?_
      refine WL.done ?_
      refine W.condT rfl ?_
      refine W.seq ?_
      refine W.region ?_
      refine WL.assign rfl rfl ?_
      refine WL.done ?_
      refine W.ret ?_
      refine ⟨_, rfl, Fin.nil ?_⟩
      exact ⟨_, hS.ext, (hS.pick [] rfl).rows, News.of (hS.pick [] rfl).rows rfl, ⟨true, rfl, rfl, hv⟩⟩
    | some F19 =>
      obtain ⟨ad20, lo21, hi22, rfl, rfl⟩ := hK
      change St _ _ _ _ [.ch lo21 hi22 (fun wz => GFX lo21 hi22 wz ad20 F19), .row 24 3 (some ⟨g11, 0, none⟩) 1 1 [.int .i64 Pf, .int .i64 Mf, .slice Af mf.length kf]] at hS
      refine WL.assign rfl rfl ?_
      refine WL.done ?_
      refine W.seq ?_
      refine W.seq ?_
      refine W.region ?_
      refine WL.move rfl rfl ?_
      refine WL.eqlPn Try.underlying26 rfl rfl rfl rfl ?_
      refine WL.move rfl rfl ?_
      refine WL.take rfl ?_
      refine WL.move rfl rfl ?_
      refine WL.take rfl ?_
      refine WL.move rfl rfl ?_
      refine WL.take rfl ?_
      refine SL.lit1 (vs := [.slice Axs xs.length kxs, .slice Ays ys.length kys]) hS Try.underlying37 Try.el22 rfl rfl rfl rfl (by simp [Value.oneCell']) rfl ?_
      intro A25 w26 hS
      refine WL.take rfl ?_
      refine SL.call hS (ok_short (ls := ([xs, ys] : List (List Int))) ⟨_, _, (hS.rd (i := 0) rfl), ⟨⟨_, _, _, rfl, (Rd.is_m (hS.ro hxs))⟩, ⟨_, _, _, rfl, (Rd.is_m (hS.ro hys))⟩, trivial⟩⟩ hv) Try.func26 rfl Try.nm26 rfl rfl ?_
      rintro _ _ w28 ⟨r29, rfl, rfl, hv⟩ hGw28 hS
      change St _ _ _ _ [.row 22 1 A25 2 2 [.slice Axs xs.length kxs, .slice Ays ys.length kys], .ch lo21 hi22 (fun wz => GFX lo21 hi22 wz ad20 F19), .row 24 3 (some ⟨g11, 0, none⟩) 1 1 [.int .i64 Pf, .int .i64 Mf, .slice Af mf.length kf]] at hS
      refine WL.take rfl ?_
      refine WL.not rfl rfl ?_
      refine WL.pick rfl rfl rfl ?_
      refine WL.done ?_
      refine W.cond2 rfl (fun c30 => ?_) (fun c30 => ?_)
      · have hv := hv.1 (c30)
        refine W.seq ?_
        refine W.region ?_
        refine WL.assign rfl rfl ?_
        refine WL.done ?_
        refine W.ret ?_
        refine ⟨_, rfl, Fin.nil ?_⟩
        exact ⟨_, hS.ext, (hS.pick [] rfl).rows, News.of (hS.pick [] rfl).rows rfl, ⟨true, rfl, rfl, hv⟩⟩
      · have hv := hv.2 (c30)
        refine W.skip ?_
        refine W.seq ?_
        refine W.region ?_
        refine WL.move rfl rfl ?_
        refine WL.move rfl rfl ?_
        refine WL.move rfl rfl ?_
        refine SL.call hS (ok_interp (GFX.gfr (hS.chunk (i := 1) rfl)) (hS.ro hxs) (hS.ro hys) hv) Try.func55 rfl Try.nm55 rfl rfl ?_
        rintro _ _ w31 ⟨x32, r36, A33, k34, rfl, rfl, hv⟩ hGw31 hS
        change St _ _ _ _ [.row 3 1 A33 x32.length k34 (is x32), .row 22 1 A25 2 2 [.slice Axs xs.length kxs, .slice Ays ys.length kys], .ch lo21 hi22 (fun wz => GFX lo21 hi22 wz ad20 F19), .row 24 3 (some ⟨g11, 0, none⟩) 1 1 [.int .i64 Pf, .int .i64 Mf, .slice Af mf.length kf]] at hS
        refine WL.move rfl rfl ?_
        refine WL.extract rfl rfl rfl ?_
        refine WL.extract rfl rfl rfl ?_
        refine WL.assign rfl rfl ?_
        refine WL.assign rfl rfl ?_
        refine WL.done ?_
        refine W.seq ?_
        refine W.seq ?_
        refine W.region ?_
        refine WL.move rfl rfl ?_
        refine WL.len Try.underlying22 rfl rfl ?_
        refine WL.move rfl rfl ?_
        refine WL.len Try.underlying22 rfl rfl ?_
        refine WL.neqD rfl rfl rfl ?_
        refine WL.done ?_
        refine W.cond2 rfl (fun c37 => ?_) (fun c37 => ?_)
        · have hv := hv.1 (of_decide_eq_true c37)
          refine W.seq ?_
          refine W.region ?_
          refine WL.move rfl rfl ?_
          refine WL.eqlD rfl rfl rfl ?_
          refine WL.move rfl rfl ?_
          by_cases g38 : r36 = (3 : Int)
          · have hv := hv.1 g38
            rw [decide_eq_true g38]
            refine WL.take rfl ?_
            refine WL.move rfl rfl ?_
            refine WL.take rfl ?_
            refine WL.len Try.underlying22 rfl rfl ?_
            refine WL.take rfl ?_
            refine WL.eqlD rfl rfl rfl ?_
            refine WL.pick rfl rfl rfl ?_
            refine WL.assign rfl rfl ?_
            refine WL.done ?_
            refine W.ret ?_
            refine ⟨_, rfl, Fin.nil ?_⟩
            exact ⟨_, hS.ext, (hS.pick [] rfl).rows, News.of (hS.pick [] rfl).rows rfl, ⟨(decide (((x32.length : Nat) : Int) = (0 : Int))), rfl, rfl, hv⟩⟩
          · have hv := hv.2 g38
            rw [decide_eq_false g38]
            refine WL.pass rfl rfl rfl ?_
            refine WL.pass rfl rfl rfl ?_
            refine WL.pass rfl rfl rfl ?_
            refine WL.pick rfl rfl rfl ?_
            refine WL.assign rfl rfl ?_
            refine WL.done ?_
            refine W.ret ?_
            refine ⟨_, rfl, Fin.nil ?_⟩
            exact ⟨_, hS.ext, (hS.pick [] rfl).rows, News.of (hS.pick [] rfl).rows rfl, ⟨false, rfl, rfl, hv⟩⟩
        · have hv := hv.2 (of_decide_eq_false c37)
          refine W.skip ?_
          refine W.seq ?_
          refine W.seq ?_
          refine W.region ?_
          refine WL.move rfl rfl ?_
          refine WL.len Try.underlying22 rfl rfl ?_
          refine WL.move rfl rfl ?_
          refine WL.done ?_
          refine W.block ?_
          obtain ⟨I42, μ43, hv, hk123⟩ := hv
          change St _ _ _ _ [.row 3 1 A33 x32.length k34 (is x32), .row 22 1 A25 2 2 [.slice Axs xs.length kxs, .slice Ays ys.length kys], .ch lo21 hi22 (fun wz => GFX lo21 hi22 wz ad20 F19), .row 24 3 (some ⟨g11, 0, none⟩) 1 1 [.int .i64 Pf, .int .i64 Mf, .slice Af mf.length kf]] at hS
          refine W.loop (σ := Int) (fun z41 w1 => I42 z41 ∧ St TT w none w1 [.row 3 1 A33 x32.length k34 (is x32), .row 22 1 A25 2 2 [.slice Axs xs.length kxs, .slice Ays ys.length kys], .ch lo21 hi22 (fun wz => GFX lo21 hi22 wz ad20 F19), .row 24 3 (some ⟨g11, 0, none⟩) 1 1 [.int .i64 Pf, .int .i64 Mf, .slice Af mf.length kf]]) (fun z41 => [(1, .slice Axs xs.length kxs), (2, .slice Ays ys.length kys), (3, .pointer (some ⟨g11, 0, none⟩)), (6, .bool false), (8, .slice A33 x32.length k34), (9, .int .i64 r36), (46, .int .i64 ((xs.length : Nat) : Int)), (47, .int .i64 z41)]) (fun z41 => μ43 z41) (0 : Int) ⟨hv, hS⟩ ⟨rfl, rfl, rfl, rfl, rfl, rfl, rfl, rfl, trivial⟩ ?_
          rintro z41 w44 ⟨hv, hS⟩
          have hv := hk123 z41 hv
          refine W.seq ?_
          refine W.region ?_
          refine WL.lssD rfl rfl rfl ?_
          refine WL.done ?_
          refine W.seq ?_
          refine W.cond2 rfl (fun c45 => ?_) (fun c45 => ?_)
          · have hv := hv.1 (of_decide_eq_true c45)
            refine W.skip ?_
            refine W.seq ?_
            refine W.block ?_
            refine W.seq ?_
            refine W.region ?_
            refine WL.move rfl rfl ?_
            refine WL.assign rfl rfl ?_
            refine WL.done ?_
            refine W.seq ?_
            refine W.region ?_
            refine WL.move rfl rfl ?_
            refine WL.move rfl rfl ?_
            refine WL.done ?_
            refine W.block ?_
            obtain ⟨I49, μ50, hv, hk79⟩ := hv
            change St _ _ _ _ [.row 3 1 A33 x32.length k34 (is x32), .row 22 1 A25 2 2 [.slice Axs xs.length kxs, .slice Ays ys.length kys], .ch lo21 hi22 (fun wz => GFX lo21 hi22 wz ad20 F19), .row 24 3 (some ⟨g11, 0, none⟩) 1 1 [.int .i64 Pf, .int .i64 Mf, .slice Af mf.length kf]] at hS
            refine W.loop (σ := Int) (fun z48 w1 => I49 z48 ∧ St TT w none w1 [.row 3 1 A33 x32.length k34 (is x32), .row 22 1 A25 2 2 [.slice Axs xs.length kxs, .slice Ays ys.length kys], .ch lo21 hi22 (fun wz => GFX lo21 hi22 wz ad20 F19), .row 24 3 (some ⟨g11, 0, none⟩) 1 1 [.int .i64 Pf, .int .i64 Mf, .slice Af mf.length kf]]) (fun z48 => [(1, .slice Axs xs.length kxs), (2, .slice Ays ys.length kys), (3, .pointer (some ⟨g11, 0, none⟩)), (6, .bool false), (8, .slice A33 x32.length k34), (9, .int .i64 r36), (10, .int .i64 z41), (46, .int .i64 ((xs.length : Nat) : Int)), (47, .int .i64 z41), (48, .bool (decide (z41 < ((xs.length : Nat) : Int)))), (50, .int .i64 z41), (51, .int .i64 z48)]) (fun z48 => μ50 z48) (0 : Int) ⟨hv, hS⟩ ⟨rfl, rfl, rfl, rfl, rfl, rfl, rfl, rfl, rfl, rfl, rfl, rfl, trivial⟩ ?_
            rintro z48 w51 ⟨hv, hS⟩
            have hv := hk79 z48 hv
            refine W.seq ?_
            refine W.region ?_
            refine WL.lssD rfl rfl rfl ?_
            refine WL.done ?_
            refine W.seq ?_
            refine W.cond2 rfl (fun c52 => ?_) (fun c52 => ?_)
            · have hv := hv.1 (of_decide_eq_true c52)
              refine W.skip ?_
              refine W.seq ?_
              refine W.block ?_
              refine W.seq ?_
              refine W.region ?_
              refine WL.move rfl rfl ?_
              refine WL.assign rfl rfl ?_
              refine WL.done ?_
              refine W.seq ?_
              obtain ⟨o57, hv⟩ := hv
              obtain ⟨r60, o62, hv⟩ := hv
              obtain ⟨o67, hv⟩ := hv
              obtain ⟨r70, o72, hv⟩ := hv
              have hS0 := hS
              refine W.drawX 13 (fun _ => false) (fun _ => none) [⟨[], [3], false⟩, ⟨[], [1], true⟩, ⟨[], [10], true⟩, ⟨[1, 2], [], true⟩, ⟨[3], [], false⟩, ⟨[0, 4], [], false⟩, ⟨[], [3], false⟩, ⟨[], [1], true⟩, ⟨[], [11], true⟩, ⟨[7, 8], [], true⟩, ⟨[9], [], false⟩, ⟨[6, 10], [], false⟩, ⟨[5, 11], [], true⟩] [[(3, .pointer (some ⟨g11, 0, none⟩))], [(1, .slice Axs xs.length kxs)], [(10, .int .i64 z41)], [], [], [], [(3, .pointer (some ⟨g11, 0, none⟩))], [(1, .slice Axs xs.length kxs)], [(11, .int .i64 z48)], [], [], [], []] (fun iQ => [fun v _ => v = .agg #[.int .i64 Pf, .int .i64 Mf, .slice Af mf.length kf], fun v _ => v = .slice Axs xs.length kxs, fun v _ => v = .int .i64 z41, fun v _ => v = .pointer (some ((adOf Axs).add z41.toNat)), fun v _ => v = .int .i64 (gi xs z41), fun v _ => v = .int .i64 r60, fun v _ => v = .agg #[.int .i64 Pf, .int .i64 Mf, .slice Af mf.length kf], fun v _ => v = .slice Axs xs.length kxs, fun v _ => v = .int .i64 z48, fun v _ => v = .pointer (some ((adOf Axs).add z48.toNat)), fun v _ => v = .int .i64 (gi xs z48), fun v _ => v = .int .i64 r70, fun v _ => v = .bool (decide (r60 = r70))].getD iQ (fun _ _ => True)) Try.mixed (by kernel_rfl) ?_ (by kernel_rfl) ?_ ?_
              · refine Vs_monoT _ ?_
                intro VQ hVQ vQ wQ1 wQ2 hQ1 hQ2
                simp only [List.mem_cons, List.not_mem_nil, or_false] at hVQ
                rcases hVQ with rfl | rfl | rfl | rfl | rfl | rfl | rfl | rfl | rfl | rfl | rfl | rfl | rfl
                · exact hQ1
                · exact hQ1
                · exact hQ1
                · exact hQ1
                · exact hQ1
                · exact hQ1
                · exact hQ1
                · exact hQ1
                · exact hQ1
                · exact hQ1
                · exact hQ1
                · exact hQ1
                · exact hQ1
              · refine ⟨⟨rfl, ⟨rfl, trivial⟩, ?_⟩, ⟨rfl, ⟨rfl, trivial⟩, ?_⟩, ⟨rfl, ⟨rfl, trivial⟩, ?_⟩, ⟨rfl, trivial, ?_⟩, ⟨rfl, trivial, ?_⟩, ⟨rfl, trivial, ?_⟩, ⟨rfl, ⟨rfl, trivial⟩, ?_⟩, ⟨rfl, ⟨rfl, trivial⟩, ?_⟩, ⟨rfl, ⟨rfl, trivial⟩, ?_⟩, ⟨rfl, trivial, ?_⟩, ⟨rfl, trivial, ?_⟩, ⟨rfl, trivial, ?_⟩, ⟨rfl, trivial, ?_⟩, trivial⟩
                · intro w53 hE
                  have hE := hE rfl
                  have hS := hS.grow hE
                  intro RR
                  refine WL.loadV (cs := [.int .i64 Pf, .int .i64 Mf, .slice Af mf.length kf]) Try.el24 Try.agg24 rfl rfl (Own.vcells (hS.own (i := 3) rfl)) rfl ?_
                  exact WL.done ⟨_, rfl, ext_refl _, rfl, (fun h => absurd h (by decide)), (fun j h => by cases h)⟩
                · intro w54 hE
                  intro RR
                  refine WL.move rfl rfl ?_
                  exact WL.done ⟨_, rfl, rfl, rfl, (fun h => absurd h (by decide)), (fun j h => by cases h)⟩
                · intro w55 hE
                  intro RR
                  refine WL.move rfl rfl ?_
                  exact WL.done ⟨_, rfl, rfl, rfl, (fun h => absurd h (by decide)), (fun j h => by cases h)⟩
                · intro w56 hE
                  rintro _ rfl
                  rintro _ rfl
                  intro RR
                  refine SL.index Try.underlying22 Try.el3 (hS.ro hxs) rfl rfl o57 rfl ?_
                  exact WL.done ⟨_, rfl, rfl, rfl, (fun h => absurd h (by decide)), (fun j h => by cases h)⟩
                · intro w58 hE
                  have hE := hE rfl
                  have hS := hS.grow hE
                  rintro _ rfl
                  intro RR
                  refine WL.load Try.underlying3 rfl rfl (Rd.gi (hS.ro hxs) o57) rfl ?_
                  exact WL.done ⟨_, rfl, ext_refl _, rfl, (fun h => absurd h (by decide)), (fun j h => by cases h)⟩
                · intro w59 hE
                  have hE := hE rfl
                  have hS := hS.grow hE
                  rintro _ rfl
                  rintro _ rfl
                  intro RR
                  refine WL.call Try.func56 rfl Try.nm56 rfl rfl (calls_un (ok_rIn (hS.ro hf) o62)) ?_
                  rintro _ w61 ⟨_, hGw61, hRww61, hNww61, r60q, rfl, rfl, he⟩
                  subst he
                  exact WL.done ⟨_, rfl, hGw61, rfl, (fun h => absurd h (by decide)), (fun j h => by cases h)⟩
                · intro w63 hE
                  have hE := hE rfl
                  have hS := hS.grow hE
                  intro RR
                  refine WL.loadV (cs := [.int .i64 Pf, .int .i64 Mf, .slice Af mf.length kf]) Try.el24 Try.agg24 rfl rfl (Own.vcells (hS.own (i := 3) rfl)) rfl ?_
                  exact WL.done ⟨_, rfl, ext_refl _, rfl, (fun h => absurd h (by decide)), (fun j h => by cases h)⟩
                · intro w64 hE
                  intro RR
                  refine WL.move rfl rfl ?_
                  exact WL.done ⟨_, rfl, rfl, rfl, (fun h => absurd h (by decide)), (fun j h => by cases h)⟩
                · intro w65 hE
                  intro RR
                  refine WL.move rfl rfl ?_
                  exact WL.done ⟨_, rfl, rfl, rfl, (fun h => absurd h (by decide)), (fun j h => by cases h)⟩
                · intro w66 hE
                  rintro _ rfl
                  rintro _ rfl
                  intro RR
                  refine SL.index Try.underlying22 Try.el3 (hS.ro hxs) rfl rfl o67 rfl ?_
                  exact WL.done ⟨_, rfl, rfl, rfl, (fun h => absurd h (by decide)), (fun j h => by cases h)⟩
                · intro w68 hE
                  have hE := hE rfl
                  have hS := hS.grow hE
                  rintro _ rfl
                  intro RR
                  refine WL.load Try.underlying3 rfl rfl (Rd.gi (hS.ro hxs) o67) rfl ?_
                  exact WL.done ⟨_, rfl, ext_refl _, rfl, (fun h => absurd h (by decide)), (fun j h => by cases h)⟩
                · intro w69 hE
                  have hE := hE rfl
                  have hS := hS.grow hE
                  rintro _ rfl
                  rintro _ rfl
                  intro RR
                  refine WL.call Try.func56 rfl Try.nm56 rfl rfl (calls_un (ok_rIn (hS.ro hf) o72)) ?_
                  rintro _ w71 ⟨_, hGw71, hRww71, hNww71, r70q, rfl, rfl, he⟩
                  subst he
                  exact WL.done ⟨_, rfl, hGw71, rfl, (fun h => absurd h (by decide)), (fun j h => by cases h)⟩
                · intro w73 hE
                  rintro _ rfl
                  rintro _ rfl
                  intro RR
                  refine WL.eqlD rfl rfl rfl ?_
                  exact WL.done ⟨_, rfl, rfl, rfl, (fun h => absurd h (by decide)), (fun j h => by cases h)⟩
              · intro vals w74 hT hVs hAp hCp
                have hS := hS.grow hT
                have hv0 : vals 0 = _ := hVs 0 (by decide)
                have hv1 : vals 1 = _ := hVs 1 (by decide)
                have hv2 : vals 2 = _ := hVs 2 (by decide)
                have hv3 : vals 3 = _ := hVs 3 (by decide)
                have hv4 : vals 4 = _ := hVs 4 (by decide)
                have hv5 : vals 5 = _ := hVs 5 (by decide)
                have hv6 : vals 6 = _ := hVs 6 (by decide)
                have hv7 : vals 7 = _ := hVs 7 (by decide)
                have hv8 : vals 8 = _ := hVs 8 (by decide)
                have hv9 : vals 9 = _ := hVs 9 (by decide)
                have hv10 : vals 10 = _ := hVs 10 (by decide)
                have hv11 : vals 11 = _ := hVs 11 (by decide)
                have hv12 : vals 12 = _ := hVs 12 (by decide)
                rw [show (List.filterMap (fun i => Option.map (fun t => (t, vals i)) (dstAt _ i)) (List.range _)) = [(54, .agg #[.int .i64 Pf, .int .i64 Mf, .slice Af mf.length kf]), (55, .slice Axs xs.length kxs), (56, .int .i64 z41), (57, .pointer (some ((adOf Axs).add z41.toNat))), (58, .int .i64 (gi xs z41)), (59, .int .i64 r60), (60, .agg #[.int .i64 Pf, .int .i64 Mf, .slice Af mf.length kf]), (61, .slice Axs xs.length kxs), (62, .int .i64 z48), (63, .pointer (some ((adOf Axs).add z48.toNat))), (64, .int .i64 (gi xs z48)), (65, .int .i64 r70), (66, .bool (decide (r60 = r70)))] from by
                  show [(54, vals 0), (55, vals 1), (56, vals 2), (57, vals 3), (58, vals 4), (59, vals 5), (60, vals 6), (61, vals 7), (62, vals 8), (63, vals 9), (64, vals 10), (65, vals 11), (66, vals 12)] = _
                  rw [hv0, hv1, hv2, hv3, hv4, hv5, hv6, hv7, hv8, hv9, hv10, hv11, hv12]]
                refine WA.done (by decide +kernel) ?_
                refine W.cond2 rfl (fun c75 => ?_) (fun c75 => ?_)
                · have hv := hv.1 (of_decide_eq_true c75)
                  refine W.seq ?_
                  refine W.region ?_
                  refine WL.move rfl rfl ?_
                  refine WL.eqlD rfl rfl rfl ?_
                  refine WL.move rfl rfl ?_
                  by_cases g76 : r36 = (18 : Int)
                  · have hv := hv.1 g76
                    rw [decide_eq_true g76]
                    refine WL.take rfl ?_
                    refine WL.move rfl rfl ?_
                    refine WL.take rfl ?_
                    refine WL.len Try.underlying22 rfl rfl ?_
                    refine WL.take rfl ?_
                    refine WL.eqlD rfl rfl rfl ?_
                    refine WL.pick rfl rfl rfl ?_
                    refine WL.assign rfl rfl ?_
                    refine WL.done ?_
                    refine W.ret ?_
                    refine ⟨_, rfl, Fin.nil ?_⟩
                    exact ⟨_, hS.ext, (hS.pick [] rfl).rows, News.of (hS.pick [] rfl).rows rfl, ⟨(decide (((x32.length : Nat) : Int) = (0 : Int))), rfl, rfl, hv⟩⟩
                  · have hv := hv.2 g76
                    rw [decide_eq_false g76]
                    refine WL.pass rfl rfl rfl ?_
                    refine WL.pass rfl rfl rfl ?_
                    refine WL.pass rfl rfl rfl ?_
                    refine WL.pick rfl rfl rfl ?_
                    refine WL.assign rfl rfl ?_
                    refine WL.done ?_
                    refine W.ret ?_
                    refine ⟨_, rfl, Fin.nil ?_⟩
                    exact ⟨_, hS.ext, (hS.pick [] rfl).rows, News.of (hS.pick [] rfl).rows rfl, ⟨false, rfl, rfl, hv⟩⟩
                · have hv := hv.2 (of_decide_eq_false c75)
                  refine W.skip ?_
                  refine W.region ?_
                  obtain ⟨o77, hv⟩ := hv
                  refine WL.add (r := (z48 + (1 : Int))) rfl rfl (wr o77) rfl ?_
                  refine WL.move rfl rfl ?_
                  refine WL.done ?_
                  change St _ _ _ _ [.row 3 1 A33 x32.length k34 (is x32), .row 22 1 A25 2 2 [.slice Axs xs.length kxs, .slice Ays ys.length kys], .ch lo21 hi22 (fun wz => GFX lo21 hi22 wz ad20 F19), .row 24 3 (some ⟨g11, 0, none⟩) 1 1 [.int .i64 Pf, .int .i64 Mf, .slice Af mf.length kf]] at hS
                  exact ⟨(z48 + (1 : Int)), ⟨rfl, rfl, rfl, rfl, rfl, rfl, rfl, rfl, rfl, rfl, rfl, rfl, trivial⟩, hv.2, rfl, hv.1, hS⟩
            · have hv := hv.2 (of_decide_eq_false c52)
              refine W.exit ?_
              refine W.region ?_
              obtain ⟨o78, hv⟩ := hv
              refine WL.add (r := (z41 + (1 : Int))) rfl rfl (wr o78) rfl ?_
              refine WL.move rfl rfl ?_
              refine WL.done ?_
              change St _ _ _ _ [.row 3 1 A33 x32.length k34 (is x32), .row 22 1 A25 2 2 [.slice Axs xs.length kxs, .slice Ays ys.length kys], .ch lo21 hi22 (fun wz => GFX lo21 hi22 wz ad20 F19), .row 24 3 (some ⟨g11, 0, none⟩) 1 1 [.int .i64 Pf, .int .i64 Mf, .slice Af mf.length kf]] at hS
              exact ⟨(z41 + (1 : Int)), ⟨rfl, rfl, rfl, rfl, rfl, rfl, rfl, rfl, trivial⟩, hv.2, rfl, hv.1, hS⟩
          · have hv := hv.2 (of_decide_eq_false c45)
            refine W.exit ?_
            refine W.seq ?_
            refine W.seq ?_
            refine W.region ?_
            refine WL.move rfl rfl ?_
            refine WL.neqD rfl rfl rfl ?_
            refine WL.move rfl rfl ?_
            by_cases g80 : r36 ≠ (0 : Int)
            · have hv := hv.1 g80
              rw [decide_eq_true g80]
              refine WL.pass rfl rfl rfl ?_
              refine WL.pass rfl rfl rfl ?_
              refine WL.pass rfl rfl rfl ?_
              refine WL.pass rfl rfl rfl ?_
              refine WL.pass rfl rfl rfl ?_
              refine WL.pick rfl rfl rfl ?_
              refine WL.move rfl rfl ?_
              refine WL.pass rfl rfl rfl ?_
              refine WL.pass rfl rfl rfl ?_
              refine WL.pass rfl rfl rfl ?_
              refine WL.pass rfl rfl rfl ?_
              refine WL.pass rfl rfl rfl ?_
              refine WL.pass rfl rfl rfl ?_
              refine WL.pick rfl rfl rfl ?_
              refine WL.done ?_
              refine W.condT rfl ?_
              refine W.seq ?_
              refine W.region ?_
              refine WL.assign rfl rfl ?_
              refine WL.done ?_
              refine W.ret ?_
              refine ⟨_, rfl, Fin.nil ?_⟩
              exact ⟨_, hS.ext, (hS.pick [] rfl).rows, News.of (hS.pick [] rfl).rows rfl, ⟨false, rfl, rfl, hv⟩⟩
            · have hv := hv.2 g80
              rw [decide_eq_false g80]
              refine WL.take rfl ?_
              refine WL.move rfl rfl ?_
              refine WL.take rfl ?_
              refine WL.len Try.underlying22 rfl rfl ?_
              refine WL.take rfl ?_
              refine WL.move rfl rfl ?_
              refine WL.take rfl ?_
              refine WL.len Try.underlying22 rfl rfl ?_
              refine WL.take rfl ?_
              refine WL.gtrD rfl rfl rfl ?_
              refine WL.pick rfl rfl rfl ?_
              refine WL.move rfl rfl ?_
              by_cases g81 : ((xs.length : Nat) : Int) < ((x32.length : Nat) : Int)
              · have hv := hv.1 g81
                rw [decide_eq_true g81]
                refine WL.pass rfl rfl rfl ?_
                refine WL.pass rfl rfl rfl ?_
                refine WL.pass rfl rfl rfl ?_
                refine WL.pass rfl rfl rfl ?_
                refine WL.pass rfl rfl rfl ?_
                refine WL.pass rfl rfl rfl ?_
                refine WL.pick rfl rfl rfl ?_
                refine WL.done ?_
                refine W.condT rfl ?_
                refine W.seq ?_
                refine W.region ?_
                refine WL.assign rfl rfl ?_
                refine WL.done ?_
                refine W.ret ?_
                refine ⟨_, rfl, Fin.nil ?_⟩
                exact ⟨_, hS.ext, (hS.pick [] rfl).rows, News.of (hS.pick [] rfl).rows rfl, ⟨false, rfl, rfl, hv⟩⟩
              · have hv := hv.2 g81
                rw [decide_eq_false g81]
                refine WL.take rfl ?_
                refine WL.move rfl rfl ?_
                refine WL.take rfl ?_
                refine WL.loadV (cs := [.int .i64 Pf, .int .i64 Mf, .slice Af mf.length kf]) Try.el24 Try.agg24 rfl rfl (Own.vcells (hS.own (i := 3) rfl)) rfl ?_
                refine WL.take rfl ?_
                refine WL.move rfl rfl ?_
                refine WL.take rfl ?_
                refine SL.call hS (ok_rcanon (hS.ro hf) (hS.rd (i := 0) rfl) hv) Try.func24 rfl Try.nm24 rfl rfl ?_
                rintro _ _ w82 ⟨x83, A84, k85, rfl, rfl, hv⟩ hGw82 hS
                change St _ _ _ _ [.row 3 1 A84 x83.length k85 (is x83), .row 3 1 A33 x32.length k34 (is x32), .row 22 1 A25 2 2 [.slice Axs xs.length kxs, .slice Ays ys.length kys], .ch lo21 hi22 (fun wz => GFX lo21 hi22 wz ad20 F19), .row 24 3 (some ⟨g11, 0, none⟩) 1 1 [.int .i64 Pf, .int .i64 Mf, .slice Af mf.length kf]] at hS
                refine WL.take rfl ?_
                refine SL.call hS (ok_lsame (hS.rd (i := 1) rfl) (hS.rd (i := 0) rfl) hv) Try.func23 rfl Try.nm23 rfl rfl ?_
                rintro _ _ w87 ⟨r88, rfl, rfl, hv⟩ hGw87 hS
                change St _ _ _ _ [.row 3 1 A84 x83.length k85 (is x83), .row 3 1 A33 x32.length k34 (is x32), .row 22 1 A25 2 2 [.slice Axs xs.length kxs, .slice Ays ys.length kys], .ch lo21 hi22 (fun wz => GFX lo21 hi22 wz ad20 F19), .row 24 3 (some ⟨g11, 0, none⟩) 1 1 [.int .i64 Pf, .int .i64 Mf, .slice Af mf.length kf]] at hS
                refine WL.take rfl ?_
                refine WL.not rfl rfl ?_
                refine WL.pick rfl rfl rfl ?_
                refine WL.done ?_
                refine W.cond2 rfl (fun c89 => ?_) (fun c89 => ?_)
                · have hv := hv.1 (c89)
                  refine W.seq ?_
                  refine W.region ?_
                  refine WL.assign rfl rfl ?_
                  refine WL.done ?_
                  refine W.ret ?_
                  refine ⟨_, rfl, Fin.nil ?_⟩
                  exact ⟨_, hS.ext, (hS.pick [] rfl).rows, News.of (hS.pick [] rfl).rows rfl, ⟨false, rfl, rfl, hv⟩⟩
                · have hv := hv.2 (c89)
                  refine W.skip ?_
                  refine W.seq ?_
                  refine W.seq ?_
                  refine W.region ?_
                  refine WL.move rfl rfl ?_
                  refine WL.len Try.underlying22 rfl rfl ?_
                  refine WL.move rfl rfl ?_
                  refine WL.done ?_
                  refine W.block ?_
                  obtain ⟨I93, μ94, hv, hk122⟩ := hv
                  change St _ _ _ _ [.row 3 1 A84 x83.length k85 (is x83), .row 3 1 A33 x32.length k34 (is x32), .row 22 1 A25 2 2 [.slice Axs xs.length kxs, .slice Ays ys.length kys], .ch lo21 hi22 (fun wz => GFX lo21 hi22 wz ad20 F19), .row 24 3 (some ⟨g11, 0, none⟩) 1 1 [.int .i64 Pf, .int .i64 Mf, .slice Af mf.length kf]] at hS
                  refine W.loop (σ := Int) (fun z92 w1 => I93 z92 ∧ St TT w none w1 [.row 3 1 A84 x83.length k85 (is x83), .row 3 1 A33 x32.length k34 (is x32), .row 22 1 A25 2 2 [.slice Axs xs.length kxs, .slice Ays ys.length kys], .ch lo21 hi22 (fun wz => GFX lo21 hi22 wz ad20 F19), .row 24 3 (some ⟨g11, 0, none⟩) 1 1 [.int .i64 Pf, .int .i64 Mf, .slice Af mf.length kf]]) (fun z92 => [(1, .slice Axs xs.length kxs), (2, .slice Ays ys.length kys), (3, .pointer (some ⟨g11, 0, none⟩)), (6, .bool false), (8, .slice A33 x32.length k34), (94, .int .i64 ((xs.length : Nat) : Int)), (95, .int .i64 z92)]) (fun z92 => μ94 z92) (0 : Int) ⟨hv, hS⟩ ⟨rfl, rfl, rfl, rfl, rfl, rfl, rfl, trivial⟩ ?_
                  rintro z92 w95 ⟨hv, hS⟩
                  have hv := hk122 z92 hv
                  refine W.seq ?_
                  refine W.region ?_
                  refine WL.lssD rfl rfl rfl ?_
                  refine WL.done ?_
                  refine W.seq ?_
                  refine W.cond2 rfl (fun c96 => ?_) (fun c96 => ?_)
                  · have hv := hv.1 (of_decide_eq_true c96)
                    refine W.skip ?_
                    refine W.seq ?_
                    refine W.block ?_
                    refine W.seq ?_
                    refine W.region ?_
                    refine WL.move rfl rfl ?_
                    refine WL.assign rfl rfl ?_
                    refine WL.done ?_
                    refine W.seq ?_
                    obtain ⟨o102, hv⟩ := hv
                    obtain ⟨r105, o107, hv⟩ := hv
                    obtain ⟨o112, hv⟩ := hv
                    obtain ⟨r115, o117, hv⟩ := hv
                    have hS0 := hS
                    refine W.drawX 14 (fun _ => false) (fun _ => none) [⟨[], [3], false⟩, ⟨[], [8], true⟩, ⟨[], [1], true⟩, ⟨[], [12], true⟩, ⟨[2, 3], [], true⟩, ⟨[4], [], false⟩, ⟨[0, 1, 5], [], false⟩, ⟨[], [3], false⟩, ⟨[], [2], true⟩, ⟨[], [12], true⟩, ⟨[8, 9], [], true⟩, ⟨[10], [], false⟩, ⟨[7, 11], [], false⟩, ⟨[6, 12], [], true⟩] [[(3, .pointer (some ⟨g11, 0, none⟩))], [(8, .slice A33 x32.length k34)], [(1, .slice Axs xs.length kxs)], [(12, .int .i64 z92)], [], [], [], [(3, .pointer (some ⟨g11, 0, none⟩))], [(2, .slice Ays ys.length kys)], [(12, .int .i64 z92)], [], [], [], []] (fun iQ => [fun v _ => v = .agg #[.int .i64 Pf, .int .i64 Mf, .slice Af mf.length kf], fun v _ => v = .slice A33 x32.length k34, fun v _ => v = .slice Axs xs.length kxs, fun v _ => v = .int .i64 z92, fun v _ => v = .pointer (some ((adOf Axs).add z92.toNat)), fun v _ => v = .int .i64 (gi xs z92), fun v _ => v = .int .i64 r105, fun v _ => v = .agg #[.int .i64 Pf, .int .i64 Mf, .slice Af mf.length kf], fun v _ => v = .slice Ays ys.length kys, fun v _ => v = .int .i64 z92, fun v _ => v = .pointer (some ((adOf Ays).add z92.toNat)), fun v _ => v = .int .i64 (gi ys z92), fun v _ => v = .int .i64 r115, fun v _ => v = .bool (decide (r105 ≠ r115))].getD iQ (fun _ _ => True)) Try.mixed (by kernel_rfl) ?_ (by kernel_rfl) ?_ ?_
                    · refine Vs_monoT _ ?_
                      intro VQ hVQ vQ wQ1 wQ2 hQ1 hQ2
                      simp only [List.mem_cons, List.not_mem_nil, or_false] at hVQ
                      rcases hVQ with rfl | rfl | rfl | rfl | rfl | rfl | rfl | rfl | rfl | rfl | rfl | rfl | rfl | rfl
                      · exact hQ1
                      · exact hQ1
                      · exact hQ1
                      · exact hQ1
                      · exact hQ1
                      · exact hQ1
                      · exact hQ1
                      · exact hQ1
                      · exact hQ1
                      · exact hQ1
                      · exact hQ1
                      · exact hQ1
                      · exact hQ1
                      · exact hQ1
                    · refine ⟨⟨rfl, ⟨rfl, trivial⟩, ?_⟩, ⟨rfl, ⟨rfl, trivial⟩, ?_⟩, ⟨rfl, ⟨rfl, trivial⟩, ?_⟩, ⟨rfl, ⟨rfl, trivial⟩, ?_⟩, ⟨rfl, trivial, ?_⟩, ⟨rfl, trivial, ?_⟩, ⟨rfl, trivial, ?_⟩, ⟨rfl, ⟨rfl, trivial⟩, ?_⟩, ⟨rfl, ⟨rfl, trivial⟩, ?_⟩, ⟨rfl, ⟨rfl, trivial⟩, ?_⟩, ⟨rfl, trivial, ?_⟩, ⟨rfl, trivial, ?_⟩, ⟨rfl, trivial, ?_⟩, ⟨rfl, trivial, ?_⟩, trivial⟩
                      · intro w97 hE
                        have hE := hE rfl
                        have hS := hS.grow hE
                        intro RR
                        refine WL.loadV (cs := [.int .i64 Pf, .int .i64 Mf, .slice Af mf.length kf]) Try.el24 Try.agg24 rfl rfl (Own.vcells (hS.own (i := 4) rfl)) rfl ?_
                        exact WL.done ⟨_, rfl, ext_refl _, rfl, (fun h => absurd h (by decide)), (fun j h => by cases h)⟩
                      · intro w98 hE
                        intro RR
                        refine WL.move rfl rfl ?_
                        exact WL.done ⟨_, rfl, rfl, rfl, (fun h => absurd h (by decide)), (fun j h => by cases h)⟩
                      · intro w99 hE
                        intro RR
                        refine WL.move rfl rfl ?_
                        exact WL.done ⟨_, rfl, rfl, rfl, (fun h => absurd h (by decide)), (fun j h => by cases h)⟩
                      · intro w100 hE
                        intro RR
                        refine WL.move rfl rfl ?_
                        exact WL.done ⟨_, rfl, rfl, rfl, (fun h => absurd h (by decide)), (fun j h => by cases h)⟩
                      · intro w101 hE
                        rintro _ rfl
                        rintro _ rfl
                        intro RR
                        refine SL.index Try.underlying22 Try.el3 (hS.ro hxs) rfl rfl o102 rfl ?_
                        exact WL.done ⟨_, rfl, rfl, rfl, (fun h => absurd h (by decide)), (fun j h => by cases h)⟩
                      · intro w103 hE
                        have hE := hE rfl
                        have hS := hS.grow hE
                        rintro _ rfl
                        intro RR
                        refine WL.load Try.underlying3 rfl rfl (Rd.gi (hS.ro hxs) o102) rfl ?_
                        exact WL.done ⟨_, rfl, ext_refl _, rfl, (fun h => absurd h (by decide)), (fun j h => by cases h)⟩
                      · intro w104 hE
                        have hE := hE rfl
                        have hS := hS.grow hE
                        rintro _ rfl
                        rintro _ rfl
                        rintro _ rfl
                        intro RR
                        refine WL.call Try.func45 rfl Try.nm45 rfl rfl (calls_un (ok_reval (hS.ro hf) (hS.rd (i := 1) rfl) o107)) ?_
                        rintro _ w106 ⟨_, hGw106, hRww106, hNww106, r105q, rfl, rfl, he⟩
                        subst he
                        exact WL.done ⟨_, rfl, hGw106, rfl, (fun h => absurd h (by decide)), (fun j h => by cases h)⟩
                      · intro w108 hE
                        have hE := hE rfl
                        have hS := hS.grow hE
                        intro RR
                        refine WL.loadV (cs := [.int .i64 Pf, .int .i64 Mf, .slice Af mf.length kf]) Try.el24 Try.agg24 rfl rfl (Own.vcells (hS.own (i := 4) rfl)) rfl ?_
                        exact WL.done ⟨_, rfl, ext_refl _, rfl, (fun h => absurd h (by decide)), (fun j h => by cases h)⟩
                      · intro w109 hE
                        intro RR
                        refine WL.move rfl rfl ?_
                        exact WL.done ⟨_, rfl, rfl, rfl, (fun h => absurd h (by decide)), (fun j h => by cases h)⟩
                      · intro w110 hE
                        intro RR
                        refine WL.move rfl rfl ?_
                        exact WL.done ⟨_, rfl, rfl, rfl, (fun h => absurd h (by decide)), (fun j h => by cases h)⟩
                      · intro w111 hE
                        rintro _ rfl
                        rintro _ rfl
                        intro RR
                        refine SL.index Try.underlying22 Try.el3 (hS.ro hys) rfl rfl o112 rfl ?_
                        exact WL.done ⟨_, rfl, rfl, rfl, (fun h => absurd h (by decide)), (fun j h => by cases h)⟩
                      · intro w113 hE
                        have hE := hE rfl
                        have hS := hS.grow hE
                        rintro _ rfl
                        intro RR
                        refine WL.load Try.underlying3 rfl rfl (Rd.gi (hS.ro hys) o112) rfl ?_
                        exact WL.done ⟨_, rfl, ext_refl _, rfl, (fun h => absurd h (by decide)), (fun j h => by cases h)⟩
                      · intro w114 hE
                        have hE := hE rfl
                        have hS := hS.grow hE
                        rintro _ rfl
                        rintro _ rfl
                        intro RR
                        refine WL.call Try.func56 rfl Try.nm56 rfl rfl (calls_un (ok_rIn (hS.ro hf) o117)) ?_
                        rintro _ w116 ⟨_, hGw116, hRww116, hNww116, r115q, rfl, rfl, he⟩
                        subst he
                        exact WL.done ⟨_, rfl, hGw116, rfl, (fun h => absurd h (by decide)), (fun j h => by cases h)⟩
                      · intro w118 hE
                        rintro _ rfl
                        rintro _ rfl
                        intro RR
                        refine WL.neqD rfl rfl rfl ?_
                        exact WL.done ⟨_, rfl, rfl, rfl, (fun h => absurd h (by decide)), (fun j h => by cases h)⟩
                    · intro vals w119 hT hVs hAp hCp
                      have hS := hS.grow hT
                      have hv0 : vals 0 = _ := hVs 0 (by decide)
                      have hv1 : vals 1 = _ := hVs 1 (by decide)
                      have hv2 : vals 2 = _ := hVs 2 (by decide)
                      have hv3 : vals 3 = _ := hVs 3 (by decide)
                      have hv4 : vals 4 = _ := hVs 4 (by decide)
                      have hv5 : vals 5 = _ := hVs 5 (by decide)
                      have hv6 : vals 6 = _ := hVs 6 (by decide)
                      have hv7 : vals 7 = _ := hVs 7 (by decide)
                      have hv8 : vals 8 = _ := hVs 8 (by decide)
                      have hv9 : vals 9 = _ := hVs 9 (by decide)
                      have hv10 : vals 10 = _ := hVs 10 (by decide)
                      have hv11 : vals 11 = _ := hVs 11 (by decide)
                      have hv12 : vals 12 = _ := hVs 12 (by decide)
                      have hv13 : vals 13 = _ := hVs 13 (by decide)
                      rw [show (List.filterMap (fun i => Option.map (fun t => (t, vals i)) (dstAt _ i)) (List.range _)) = [(98, .agg #[.int .i64 Pf, .int .i64 Mf, .slice Af mf.length kf]), (99, .slice A33 x32.length k34), (100, .slice Axs xs.length kxs), (101, .int .i64 z92), (102, .pointer (some ((adOf Axs).add z92.toNat))), (103, .int .i64 (gi xs z92)), (104, .int .i64 r105), (105, .agg #[.int .i64 Pf, .int .i64 Mf, .slice Af mf.length kf]), (106, .slice Ays ys.length kys), (107, .int .i64 z92), (108, .pointer (some ((adOf Ays).add z92.toNat))), (109, .int .i64 (gi ys z92)), (110, .int .i64 r115), (111, .bool (decide (r105 ≠ r115)))] from by
                        show [(98, vals 0), (99, vals 1), (100, vals 2), (101, vals 3), (102, vals 4), (103, vals 5), (104, vals 6), (105, vals 7), (106, vals 8), (107, vals 9), (108, vals 10), (109, vals 11), (110, vals 12), (111, vals 13)] = _
                        rw [hv0, hv1, hv2, hv3, hv4, hv5, hv6, hv7, hv8, hv9, hv10, hv11, hv12, hv13]]
                      refine WA.done (by decide +kernel) ?_
                      refine W.cond2 rfl (fun c120 => ?_) (fun c120 => ?_)
                      · have hv := hv.1 (of_decide_eq_true c120)
                        refine W.seq ?_
                        refine W.region ?_
                        refine WL.assign rfl rfl ?_
                        refine WL.done ?_
                        refine W.ret ?_
                        refine ⟨_, rfl, Fin.nil ?_⟩
                        exact ⟨_, hS.ext, (hS.pick [] rfl).rows, News.of (hS.pick [] rfl).rows rfl, ⟨false, rfl, rfl, hv⟩⟩
                      · have hv := hv.2 (of_decide_eq_false c120)
                        refine W.skip ?_
                        refine W.region ?_
                        obtain ⟨o121, hv⟩ := hv
                        refine WL.add (r := (z92 + (1 : Int))) rfl rfl (wr o121) rfl ?_
                        refine WL.move rfl rfl ?_
                        refine WL.done ?_
                        change St _ _ _ _ [.row 3 1 A84 x83.length k85 (is x83), .row 3 1 A33 x32.length k34 (is x32), .row 22 1 A25 2 2 [.slice Axs xs.length kxs, .slice Ays ys.length kys], .ch lo21 hi22 (fun wz => GFX lo21 hi22 wz ad20 F19), .row 24 3 (some ⟨g11, 0, none⟩) 1 1 [.int .i64 Pf, .int .i64 Mf, .slice Af mf.length kf]] at hS
                        exact ⟨(z92 + (1 : Int)), ⟨rfl, rfl, rfl, rfl, rfl, rfl, rfl, trivial⟩, hv.2, rfl, hv.1, hS⟩
                  · have hv := hv.2 (of_decide_eq_false c96)
                    refine W.exit ?_
                    refine W.seq ?_
                    refine W.region ?_
                    refine WL.assign rfl rfl ?_
                    refine WL.done ?_
                    refine W.ret ?_
                    refine ⟨_, rfl, Fin.nil ?_⟩
                    exact ⟨_, hS.ext, (hS.pick [] rfl).rows, News.of (hS.pick [] rfl).rows rfl, ⟨true, rfl, rfl, hv⟩⟩

end Go.Proofs.Ytmdigamgojfjdaa
set_option linter.unusedVariables false
set_option linter.unusedSimpArgs false
namespace Go.Proofs.Ytmdigamgojfjdaa
open Ks
/-! ### the field's operations -/
section
variable {k : Ks} {F : GFv} {P M : Int} {mf : List Int}
theorem w_Div {x y : Int} {Q : Int × Int → Prop} (K : GFk F k.p k.m k.v k.g) (h0 : k.el y = 0 → Q (0, 7)) (h1 : k.el y ≠ 0 → Q (k.co (k.el x * inv_ (k.el y)), 0)) : V_Div F x y Q :=
  v_Div K (fun h => h0 (el0.2 h)) fun z hne hz hi => by
    let u : k.E := ⟨z, hz⟩
    have e : u * k.el y = 1 := Subtype.ext hi
    have := h1 (fun h => hne (el0.1 h))
    rw [← inv_uniq e] at this; exact this
end
end Go.Proofs.Ytmdigamgojfjdaa
set_option linter.unusedVariables false
set_option linter.unusedSimpArgs false
namespace Go.Proofs.Ytmdigamgojfjdaa
open Ks
/-! ### products, quotients, greatest common divisors -/
section
variable {k : Ks} {F : GFv} {P M : Int} {mf : List Int}
theorem L_two {f : Pl k.E} (h : Dg f 1) : k.L f = [k.co (f 0), k.co (f 1)] := by
  refine vo_ext (by rw [L_dg h]; rfl) fun i hi => ?_
  rw [L_dg h] at hi
  rw [L_at h.fs]
  match i, hi with
  | 0, _ => rfl
  | 1, _ => rfl
theorem L_lin (a : k.E) : k.L (lin a) = [k.co (-a), 1] := L_two (lin_dg a)
theorem w_pscale {p : List Int} {a : Int} {Q : List Int → Prop} (K : GFk F k.p k.m k.v k.g) (hp : p.length ≤ 1000) (h : Q (k.L (ct (k.el a) * k.pol p))) : V_pscale F a p Q := by
  refine w_Scale K hp fun r hr hv => ?_
  obtain ⟨he, hpol⟩ := fill_pol (f := ct (k.el a) * k.pol p) hr (fun i hi => by rw [hv i hi, ct_mul]) ((pol_su p).ct _)
  refine w_trim K (by omega) he fun j h1 h2 h3 => ⟨⟨h1, by omega⟩, ?_⟩
  rw [h3, hpol]; exact h
end
end Go.Proofs.Ytmdigamgojfjdaa
set_option linter.unusedVariables false
set_option linter.unusedSimpArgs false
namespace Go.Proofs.Ytmdigamgojfjdaa
open Ks
/-! ### greatest common divisors, values, derivatives, roots -/
section
variable {k : Ks} {F : GFv} {P M : Int} {mf : List Int}
theorem w_eval {p : List Int} {x : Int} {Q : Int → Prop} (K : GFk F k.p k.m k.v k.g) (h : Q (k.co (vl_ (k.pol p) (k.el x)))) : V_eval F p x Q := by
  show ∃ I, _
  refine ⟨fun i z => i ≤ p.length ∧ z = k.co (evp (fun j => k.pol p (p.length - i + j)) i (k.el x)), ⟨Nat.zero_le _, rfl⟩, ?_, ?_⟩
  · rintro i hi _ ⟨_, rfl⟩
    refine ⟨_, w_Mul K rfl, w_Add K ⟨by omega, ?_⟩⟩
    rw [el_co, el_co, gi_nat]
    congr 1
    show _ = sgm (fun j => k.pol p (p.length - (i + 1) + j) * pwr (k.el x) j) (i + 1)
    rw [sgm_front, Cr.add_comm]
    congr 1
    · show k.el (vo p (p.length - 1 - i)) = k.pol p (p.length - (i + 1) + 0) * pwr (k.el x) 0
      rw [pwr, Cr.mul_one, show p.length - (i + 1) + 0 = p.length - 1 - i by omega]; rfl
    · unfold evp
      rw [← sgm_mulr]
      exact sgm_congr fun j hj => by
        rw [pwr, Cr.mul_assoc, show p.length - (i + 1) + (j + 1) = p.length - i + j by omega]
  · rintro _ ⟨_, rfl⟩
    rw [vl_eq (pol_su p)] at h
    have : (fun j => k.pol p (p.length - p.length + j)) = k.pol p := Pl.ext fun j => by rw [Nat.sub_self, Nat.zero_add]
    rw [this]; exact h
theorem w_fromRoots {rs : List Int} {Q : List Int → Prop} (K : GFk F k.p k.m k.v k.g) (hn : rs.length ≤ 1000) (h : Q (k.L (lpf (k.pol rs) rs.length))) : V_fromRoots F rs Q := by
  refine ⟨fun x z => ∃ j : Nat, z = j ∧ j ≤ rs.length ∧ x = k.L (lpf (k.pol rs) j), fun x z => (rs.length - z).toNat, ⟨0, rfl, Nat.zero_le _, L_one.symm⟩, ?_⟩
  rintro _ _ ⟨j, rfl, hj, rfl⟩
  dsimp only
  refine ⟨fun hz => ⟨⟨by omega, by omega⟩, w_Neg K ?_⟩, fun hz => ?_⟩
  · have e : ([k.co (-(k.el (gi rs (j : Int)))), 1] : List Int) = k.L (lin (k.pol rs j)) := (L_lin _).symm
    rw [e]
    exact w_times K (lpf_fs _ _) (lin_dg _).fs (Nat.le_trans (L_len (lpf_su _ j)) (by omega)) (by rw [L_dg (lin_dg _)]; omega) ⟨small (by omega) (by omega), ⟨j + 1, by push_cast; rfl, by omega, rfl⟩, by omega⟩
  · rw [show j = rs.length by omega]; exact h
theorem w_fromRoot1 {a : Int} {Q : List Int → Prop} (K : GFk F k.p k.m k.v k.g) (h : Q (k.L (lin (k.el a)))) : V_fromRoots F [a] Q := by
  refine w_fromRoots K (by simp) ?_
  show Q (k.L (1 * lin (k.pol [a] 0)))
  rw [Cr.one_mul]; exact h
end
end Go.Proofs.Ytmdigamgojfjdaa
set_option linter.unusedVariables false
set_option linter.unusedSimpArgs false
namespace Go.Proofs.Ytmdigamgojfjdaa
open Ks
/-! ### derivatives, interpolation -/
section
variable {k : Ks} {F : GFv} {P M : Int} {mf : List Int}
theorem w_interp {xs ys : List Int} {Q : List Int × Int → Prop} (K : GFk F k.p k.m k.v k.g) (hx : xs.length ≤ 30) (hy : ys.length ≤ 30) (h3 : xs.length ≠ ys.length → Q ([], 3))
    (h18 : xs.length = ys.length → (∃ i j, i < j ∧ j < xs.length ∧ k.pol xs i = k.pol xs j) → Q ([], 18))
    (h0 : xs.length = ys.length → (∀ i j, i < j → j < xs.length → k.pol xs i ≠ k.pol xs j) → ∀ f, Su f xs.length → (∀ i, i < xs.length → vl_ f (k.pol xs i) = k.pol ys i) → Q (k.L f, 0)) : V_interp F xs ys Q := by
  refine ⟨fun h => h3 (by omega), fun h => ?_⟩
  have hxy : xs.length = ys.length := by omega
  refine ⟨fun x y z => ∃ (j : Nat) (f : Pl k.E), z = j ∧ j ≤ xs.length ∧ x = k.L f ∧ y = k.L (lpf (k.pol xs) j) ∧ Su f j ∧ (∀ i, i < j → vl_ f (k.pol xs i) = k.pol ys i) ∧ ∀ i i', i < i' → i' < j → k.pol xs i ≠ k.pol xs i', fun x y z => (xs.length - z).toNat,
    ⟨0, 0, rfl, Nat.zero_le _, L_zero.symm, L_one.symm, Su.zero 0, fun i hi => by omega, fun i i' h1 h2 => by omega⟩, ?_⟩
  rintro _ _ _ ⟨j, f, rfl, hj, rfl, rfl, hf, hval, hdis⟩
  dsimp only
  refine ⟨fun hz => ⟨⟨by omega, by omega⟩, ⟨by omega, by omega⟩, ?_⟩, fun hz => ?_⟩
  · refine ⟨_, w_eval K rfl, _, w_Sub K rfl, _, w_eval K rfl, ?_⟩
    have hlp : k.pol (k.L (lpf (k.pol xs) j)) = lpf (k.pol xs) j := pol_L (lpf_fs (k.pol xs) j)
    rw [pol_L ⟨_, hf⟩, hlp, gi_nat, gi_nat]
    have hxj : k.el (vo xs j) = k.pol xs j := rfl
    have hyj : k.el (vo ys j) = k.pol ys j := rfl
    rw [hxj, hyj, el_co]
    by_cases hv0 : vl_ (lpf (k.pol xs) j) (k.pol xs j) = 0
    · refine ⟨0, 7, w_Div K (fun _ => rfl) (fun h => absurd (by rw [el_co]; exact hv0) h), fun _ => ?_, fun h => absurd (show (7 : Int) ≠ 0 by decide) h⟩
      obtain ⟨i, hi, e⟩ := (vl_lpf _ _ j).1 hv0
      exact h18 hxy ⟨i, j, hi, by omega, e⟩
    · refine ⟨_, 0, w_Div K (fun h => absurd (by rw [el_co] at h; exact h) hv0) (fun h => rfl), fun h => absurd rfl h, fun _ => ?_⟩
      rw [el_co, el_co]
      generalize hc : (k.pol ys j - vl_ f (k.pol xs j)) * inv_ (vl_ (lpf (k.pol xs) j) (k.pol xs j)) = c
      have hl1 := L_len (k := k) (lpf_su (k.pol xs) j)
      have hl2 := L_len (k := k) hf
      refine w_pscale K (by omega) ?_
      rw [el_co, hlp]
      have hs1 : Su (ct c * lpf (k.pol xs) j) (j + 1) := (lpf_su (k.pol xs) j).ct c
      have hl3 := L_len (k := k) hs1
      refine w_padd K (by omega) (by omega) ?_
      rw [pol_L ⟨_, hf⟩, pol_L ⟨_, hs1⟩]
      refine w_fromRoot1 K ?_
      rw [hxj]
      have hl4 := L_len (k := k) (lin_su (k.pol xs j))
      refine w_pmul2 K (by omega) (by omega) ?_
      rw [hlp, pol_L ⟨_, lin_su _⟩]
      refine ⟨small (by omega) (by omega), ⟨j + 1, f + ct c * lpf (k.pol xs) j, by push_cast; rfl, by omega, rfl, rfl, (hf.mono (by omega)).add hs1, fun i hi => ?_, fun i i' h1 h2 => ?_⟩, by omega⟩
      · rw [vl_add ⟨_, hf⟩ ⟨_, hs1⟩, vl_mul (Fs.ct _) (lpf_fs _ _), vl_ct]
        by_cases hij : i = j
        · subst hij
          rw [← hc, Cr.mul_assoc, Cr.mul_comm (inv_ _), mul_inv hv0, Cr.mul_one, Cr.add_comm, Cr.sub_add]
        · rw [(vl_lpf (k.pol xs) (k.pol xs i) j).2 ⟨i, by omega, rfl⟩, Cr.mul_zero, Cr.add_zero, hval i (by omega)]
      · by_cases hij : i' = j
        · subst hij
          intro e
          exact hv0 ((vl_lpf _ _ _).2 ⟨i, h1, e⟩)
        · exact hdis i i' h1 (by omega)
  · obtain rfl : j = xs.length := by omega
    exact h0 hxy hdis f hf hval
end
end Go.Proofs.Ytmdigamgojfjdaa
set_option linter.unusedVariables false
set_option linter.unusedSimpArgs false
namespace Go.Proofs.Ytmdigamgojfjdaa
open Ks
section
variable {k : Ks} {F : GFv} {P M : Int} {mf : List Int}
theorem law_PolyInterpolates (xs ys : List Int) : V_PolyInterpolates P M mf xs ys (fun b => b = true) := by
  refine w_alive ⟨fun h => absurd h (by decide), fun _ => w_made (fun _ => rfl) fun F k K hF => w_short2 rfl fun hx hy => ?_⟩
  refine w_interp K (by omega) (by omega) (fun hne => ⟨fun _ => ⟨fun _ => rfl, fun h => absurd rfl h⟩, fun h => absurd (by omega) h⟩) (fun he hex => ?_) fun he hdis f hf hval => ?_
  · refine ⟨fun h => absurd h (by omega), fun _ => ?_⟩
    -- the loops find two equal points
    refine ⟨fun z => ∃ j : Nat, z = j ∧ j ≤ xs.length ∧ ∀ a b, a < b → b < j → k.pol xs a ≠ k.pol xs b, fun z => (xs.length - z).toNat, ⟨0, rfl, Nat.zero_le _, fun a b _ h => by omega⟩, ?_⟩
    rintro _ ⟨j, rfl, hj, hd⟩
    dsimp only
    refine ⟨fun hz => ⟨fun z => ∃ i : Nat, z = i ∧ i ≤ j ∧ ∀ a, a < i → k.pol xs a ≠ k.pol xs j, fun z => (j - z).toNat, ⟨0, rfl, Nat.zero_le _, fun a h => by omega⟩, ?_⟩, fun hz => ?_⟩
    · rintro _ ⟨i, rfl, hi, hd2⟩
      dsimp only
      refine ⟨fun hz2 => ⟨⟨by omega, by omega⟩, _, w_rIn hF rfl, ⟨by omega, by omega⟩, _, w_rIn hF rfl, fun _ => ⟨fun _ => rfl, fun h => absurd rfl h⟩, fun hne => ⟨small (by omega) (by omega), ⟨i + 1, by push_cast; rfl, by omega, fun a ha => ?_⟩, by omega⟩⟩, fun hz2 => ⟨small (by omega) (by omega), ⟨j + 1, by push_cast; rfl, by omega, fun a b hab hb => ?_⟩, by omega⟩⟩
      · by_cases hai : a = i
        · subst hai; intro e; exact hne (congrArg k.co e.symm)
        · exact hd2 a (by omega)
      · by_cases hbj : b = j
        · subst hbj; exact hd2 a (by omega)
        · exact hd a b hab (by omega)
    · obtain ⟨a, b, hab, hb, e⟩ := hex
      exact absurd e (hd a b hab (by omega))
  · have hl := L_len (k := k) hf
    have hff : Fs f := ⟨_, hf⟩
    refine ⟨fun h => absurd h (by omega), fun _ => ?_⟩
    refine ⟨fun z => ∃ j : Nat, z = j ∧ j ≤ xs.length, fun z => (xs.length - z).toNat, ⟨0, rfl, Nat.zero_le _⟩, ?_⟩
    rintro _ ⟨j, rfl, hj⟩
    dsimp only
    refine ⟨fun hz => ⟨fun z => ∃ i : Nat, z = i ∧ i ≤ j, fun z => (j - z).toNat, ⟨0, rfl, Nat.zero_le _⟩, ?_⟩, fun hz => f0 ⟨fun h => by omega, fun _ => w_rcanon hF (by omega) (w_same (by omega) (L_idem hff).symm (nb ?_))⟩⟩
    · rintro _ ⟨i, rfl, hi⟩
      dsimp only
      refine ⟨fun hz2 => ⟨⟨by omega, by omega⟩, _, w_rIn hF rfl, ⟨by omega, by omega⟩, _, w_rIn hF rfl, fun e => absurd (co_inj e).symm (hdis i j (by omega) (by omega)), fun hne => ⟨small (by omega) (by omega), ⟨i + 1, by push_cast; rfl, by omega⟩, by omega⟩⟩, fun hz2 => ⟨small (by omega) (by omega), ⟨j + 1, by push_cast; rfl, by omega⟩, by omega⟩⟩
    · refine ⟨fun z => ∃ i : Nat, z = i ∧ i ≤ xs.length, fun z => (xs.length - z).toNat, ⟨0, rfl, Nat.zero_le _⟩, ?_⟩
      rintro _ ⟨i, rfl, hi⟩
      dsimp only
      refine ⟨fun hz2 => ⟨⟨by omega, by omega⟩, _, w_reval hF (by omega) rfl, ⟨by omega, by omega⟩, _, w_rIn hF rfl, fun hne => absurd ?_ hne, fun _ => ⟨small (by omega) (by omega), ⟨i + 1, by push_cast; rfl, by omega⟩, by omega⟩⟩, fun _ => rfl⟩
      rw [pol_L hff]
      exact congrArg k.co (hval i (by omega))
end
end Go.Proofs.Ytmdigamgojfjdaa
