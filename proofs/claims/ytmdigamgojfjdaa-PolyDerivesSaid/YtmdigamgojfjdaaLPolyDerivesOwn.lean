/- What only this law leans on. -/
import Derived.Test.YtmdigamgojfjdaaPolyAddsG12
set_option linter.unusedVariables false
namespace Go.Proofs.Ytmdigamgojfjdaa
open Go.RowKit
theorem Try.fld24_0 : fldB Try.prog 24 0 0 = true := by kernel_rfl
theorem Try.nm49 : (Try.f49.name == "runtime.NumGoroutine") = false := by kernel_rfl
theorem Try.nm50 : (Try.f50.name == "runtime.NumGoroutine") = false := by kernel_rfl
theorem Try.nm82 : (Try.f82.name == "runtime.NumGoroutine") = false := by kernel_rfl
theorem Try.nm83 : (Try.f83.name == "runtime.NumGoroutine") = false := by kernel_rfl
end Go.Proofs.Ytmdigamgojfjdaa
set_option linter.unusedSimpArgs false
set_option linter.unusedVariables false
namespace Go.Proofs.Ytmdigamgojfjdaa
open Go.RowKit
def V_field (Fg : GFv) (Q : Int × Int × List Int → Prop) : Prop :=
  V_cloneF Fg.P Fg.M Fg.mod (fun q => match q with | (r14, r15, x16) => Q (r14, r15, x16))
theorem ok_field {w : World} {Q : Int × Int × List Int → Prop} {Fg : GFv} {ag : Addr} {Bg : Nat} (hgg : GFR Bg w ag Fg) (hv : V_field Fg Q) :
    Calls Try.prog 82 #[.pointer (some ag)] w fun e w' => ∃ v Qr, e = .returned v ∧ w.grownBy w' none ∧ Rows w.heap.size none w' Qr ∧ News w.heap.size Qr ∧ ∃ (P M : Int) (x : List Int)  (A : Option Addr) (c : Nat), v = .agg #[.int .i64 P, .int .i64 M, .slice A x.length c] ∧ Qr = [.row 3 1 A x.length c (is x)] ∧ Q (P, M, x) := by
  have hgg_ := hgg
  obtain ⟨Ag_mod, kg_mod, Ag_exp, kg_exp, Ag_log, kg_log, Ag_above, kg_above, hg_c, hg_mod, hg_exp, hg_log, hg_above⟩ := hgg_
  refine calls_swap ?_
  refine calls_of_Wc (vs := [.pointer (some ag)]) [.cell 2 24] Try.func82 rfl rfl rfl rfl ?_
  have hS := St.start w
  unfold V_field at hv
  refine W.seq ?_
  refine W.region ?_
  refine SL.alloc (cs := [.int .i64 (0 : Int), .int .i64 (0 : Int), .slice none 0 0]) hS Try.el24 rfl rfl ?_
  intro g11 w12 hS
  refine WL.done ?_
  refine W.seq ?_
  refine W.region ?_
  refine WL.move rfl rfl ?_
  refine WL.nilCheck rfl rfl ?_
  refine WL.fieldA (off := 0) Try.fla94_0 rfl rfl ?_
  refine WL.loadV (cs := [.int .i64 Fg.P, .int .i64 Fg.M, .slice Ag_mod Fg.mod.length kg_mod]) Try.el24 Try.agg24 rfl rfl (vpart (hS.ro hg_c) 0 rfl) rfl ?_
  refine SL.call hS (ok_cloneF (hS.ro hg_mod) hv) Try.func92 rfl Try.nm92 rfl rfl ?_
  rintro _ _ w13 ⟨r14, r15, x16, A17, k18, rfl, rfl, hv⟩ hGw13 hS
  change St _ _ _ _ [.row 3 1 A17 x16.length k18 (is x16), .row 24 3 (some ⟨g11, 0, none⟩) 1 1 [.int .i64 (0 : Int), .int .i64 (0 : Int), .slice none 0 0]] at hS
  refine SL.storeV (cs := [.int .i64 r14, .int .i64 r15, .slice A17 x16.length k18]) 1 hS rfl Try.el24 rfl rfl rfl rfl rfl ?_
  intro w20 hS
  refine WL.done ?_
  refine W.ret ?_
  repeat with_reducible first | refine blk.ret ?_ | refine exits.retI ?_
  refine endC.mk ⟨[.agg #[.int .i64 r14, .int .i64 r15, .slice A17 x16.length k18]], ⟨_, _, _, rfl, rfl, run_loadV (cs := [.int .i64 r14, .int .i64 r15, .slice A17 x16.length k18]) Try.el24 Try.agg24 rfl (Own.vcells (hS.own (i := 1) rfl)), rfl⟩, ?_⟩
  exact ⟨_, hS.ext, (hS.pick [0] rfl).rows, News.of (hS.pick [0] rfl).rows rfl, ⟨r14, r15, x16, A17, k18, rfl, rfl, hv⟩⟩

end Go.Proofs.Ytmdigamgojfjdaa
set_option linter.unusedVariables false
set_option linter.unusedSimpArgs false
set_option linter.unusedSectionVars false
namespace Go.Proofs.Ytmdigamgojfjdaa
section
variable {α : Type} [Cr α]
theorem nt_add (x : α) (m : Nat) : ∀ n, nt x (m + n) = nt x m + nt x n
  | 0 => (Cr.add_zero _).symm
  | n + 1 => by rw [← Nat.add_assoc, nt, nt_add x m n, nt, Cr.add_assoc]
theorem nt_mul (x y : α) : ∀ n, nt (x * y) n = nt x n * y
  | 0 => (Cr.zero_mul y).symm
  | n + 1 => by rw [nt, nt, nt_mul x y n, Cr.add_mul]
theorem nt_mulr (x y : α) (n : Nat) : nt (x * y) n = x * nt y n := by rw [Cr.mul_comm, nt_mul, Cr.mul_comm]
theorem nt_zero : ∀ n, nt (0 : α) n = 0
  | 0 => rfl
  | n + 1 => by rw [nt, nt_zero n, Cr.add_zero]
theorem nt_addx (x y : α) : ∀ n, nt (x + y) n = nt x n + nt y n
  | 0 => (Cr.add_zero _).symm
  | n + 1 => by rw [nt, nt, nt, nt_addx x y n]; ac_rfl
theorem nt_sgm (f : Nat → α) (k : Nat) : ∀ n, nt (sgm f n) k = sgm (fun i => nt (f i) k) n
  | 0 => nt_zero k
  | n + 1 => by rw [sgm, sgm, nt_addx, nt_sgm f k n]
def dr (f : Pl α) : Pl α := fun i => nt (f (i + 1)) (i + 1)
theorem dr_su {f : Pl α} {n : Nat} (h : Su f n) : Su (dr f) (n - 1) := fun i hi => by unfold dr; rw [h (i + 1) (by omega), nt_zero]
theorem dr_mul (f g : Pl α) : dr (f * g) = dr f * g + f * dr g := by
  refine Pl.ext fun k => ?_
  rw [Pl.add_at]
  have e0 : dr (f * g) k = sgm (fun i => nt (f i) i * g (k + 1 - i)) (k + 2) + sgm (fun i => f i * nt (g (k + 1 - i)) (k + 1 - i)) (k + 2) := by
    show nt ((f * g) (k + 1)) (k + 1) = _
    rw [Pl.mul_at, nt_sgm, ← sgm_add]
    refine sgm_congr fun i hi => ?_
    rw [show k + 1 = i + (k + 1 - i) by omega, nt_add, nt_mul, nt_mulr]
    congr 3 <;> (congr 1; omega)
  rw [e0]
  congr 1
  · rw [sgm_front]
    show nt (f 0) 0 * _ + _ = _
    rw [nt, Cr.zero_mul, Cr.zero_add, Pl.mul_at]
    exact sgm_congr fun i hi => by show nt (f (i + 1)) (i + 1) * g (k + 1 - (i + 1)) = dr f i * g (k - i); rw [show k + 1 - (i + 1) = k - i by omega]; rfl
  · rw [show k + 2 = k + 1 + 1 from rfl, sgm, Nat.sub_self, nt, Cr.mul_zero, Cr.add_zero, Pl.mul_at]
    exact sgm_congr fun i hi => by show f i * nt (g (k + 1 - i)) (k + 1 - i) = f i * dr g (k - i); rw [show k + 1 - i = k - i + 1 by omega]; rfl
end
section
variable {α : Type} [Cr α] [Fd α]
end
end Go.Proofs.Ytmdigamgojfjdaa
set_option linter.unusedSimpArgs false
set_option linter.unusedVariables false
namespace Go.Proofs.Ytmdigamgojfjdaa
open Go.RowKit
def V_deriv (Fg : GFv) (p : List Int) (Q : List Int → Prop) : Prop :=
  V_field Fg (fun q => match q with | (r12, r13, x14) => (I64 (((p.length : Nat) : Int) - (1 : Int))) ∧ ((0 ≤ (max (0 : Int) (((p.length : Nat) : Int) - (1 : Int))) ∧ (max (0 : Int) (((p.length : Nat) : Int) - (1 : Int))) * 8 ≤ 281474976710656 ∧ (max (0 : Int) (((p.length : Nat) : Int) - (1 : Int))) ≤ 281474976710656) ∧ (∃ (I29 : List Int → Int → Prop) (μ30 : List Int → Int → Nat), I29 (List.replicate (max (0 : Int) (((p.length : Nat) : Int) - (1 : Int))).toNat (0 : Int)) (0 : Int) ∧ ∀ (x27 : List Int) (z28 : Int), (I29 x27 z28 → (((z28 < (((max (0 : Int) (((p.length : Nat) : Int) - (1 : Int))).toNat : Nat) : Int)) → ((I64 (z28 + (1 : Int))) ∧ ((r12 ≠ 0) ∧ ((I64 (z28 + (1 : Int))) ∧ ((0 ≤ (z28 + (1 : Int)) ∧ (z28 + (1 : Int)) < (p.length : Nat)) ∧ (∃ (r50 : Int), V_Mul Fg ((z28 + (1 : Int)).tmod r12) (gi p (z28 + (1 : Int))) (fun q => q = r50) ∧ ((0 ≤ z28 ∧ z28 < ((max (0 : Int) (((p.length : Nat) : Int) - (1 : Int))).toNat : Nat)) ∧ ((I64 (z28 + (1 : Int))) ∧ (I29 (si x27 z28 r50) (z28 + (1 : Int)) ∧ μ30 (si x27 z28 r50) (z28 + (1 : Int)) < μ30 x27 z28))))))))) ∧ (¬ (z28 < (((max (0 : Int) (((p.length : Nat) : Int) - (1 : Int))).toNat : Nat) : Int)) → (V_trim Fg x27 (fun j58 => (0 ≤ j58 ∧ j58 ≤ ((max (0 : Int) (((p.length : Nat) : Int) - (1 : Int))).toNat : Nat)) ∧ (Q (x27.take j58.toNat))))))))))
theorem ok_deriv {w : World} {Q : List Int → Prop} {Fg : GFv} {p : List Int} {ag : Addr} {Bg : Nat} (hgg : GFR Bg w ag Fg) {Bp : Nat} {Ap : Option Addr} {np kp : Nat} (hp : Rd Bp w 1 Ap np kp (is p)) (hv : V_deriv Fg p Q) :
    Calls Try.prog 49 #[.pointer (some ag), .slice Ap np kp] w fun e w' => ∃ v Qr, e = .returned v ∧ w.grownBy w' none ∧ Rows w.heap.size none w' Qr ∧ News w.heap.size Qr ∧ ∃ (r0 : List Int) (Ar0 : Option Addr) (cr0 : Nat), v = .slice Ar0 r0.length cr0 ∧ Qr = [.row 3 1 Ar0 r0.length cr0 (is r0)] ∧ Q r0 := by
  have hgg_ := hgg
  obtain ⟨Ag_mod, kg_mod, Ag_exp, kg_exp, Ag_log, kg_log, Ag_above, kg_above, hg_c, hg_mod, hg_exp, hg_log, hg_above⟩ := hgg_
  have hnp := hp.ilen
  subst hnp
  refine calls_swap ?_
  refine calls_of_W (vs := [.pointer (some ag), .slice Ap p.length kp]) [4] Try.func49 rfl rfl rfl rfl ?_
  have hS := St.start w
  unfold V_deriv at hv
  refine W.seq ?_
  refine W.region ?_
  refine WL.assign rfl rfl ?_
  refine WL.done ?_
  refine W.seq ?_
  refine W.region ?_
  refine WL.move rfl rfl ?_
  refine SL.call hS (ok_field (GFR.ext (GFR.norm hgg) hS.ext) hv) Try.func82 rfl Try.nm82 rfl rfl ?_
  rintro _ _ w11 ⟨r12, r13, x14, A15, k16, rfl, rfl, hv⟩ hGw11 hS
  change St _ _ _ _ [.row 3 1 A15 x14.length k16 (is x14)] at hS
  refine WL.field (off := 0) Try.fld24_0 rfl rfl rfl ?_
  refine WL.assign rfl rfl ?_
  refine WL.done ?_
  refine W.seq ?_
  refine W.region ?_
  refine WL.move rfl rfl ?_
  refine WL.len Try.underlying22 rfl rfl ?_
  obtain ⟨o18, hv⟩ := hv
  refine WL.sub (r := (((p.length : Nat) : Int) - (1 : Int))) rfl rfl (wr o18) rfl ?_
  refine WL.max2 (r := (max (0 : Int) (((p.length : Nat) : Int) - (1 : Int)))) rfl rfl rfl rfl ?_
  obtain ⟨o19, hv⟩ := hv
  refine SL.make (J := (max (0 : Int) (((p.length : Nat) : Int) - (1 : Int)))) hS Try.underlying22 Try.el3 rfl rfl o19 (made_is _) rfl ?_
  intro A20 w21 hS
  refine WL.assign rfl rfl ?_
  refine WL.done ?_
  refine W.seq ?_
  refine W.seq ?_
  refine W.region ?_
  refine WL.move rfl rfl ?_
  refine WL.len Try.underlying22 rfl rfl ?_
  refine WL.move rfl rfl ?_
  refine WL.done ?_
  refine W.block ?_
  obtain ⟨I29, μ30, hv, hk60⟩ := hv
  change St _ _ _ _ [.row 3 1 A20 ((max (0 : Int) (((p.length : Nat) : Int) - (1 : Int))).toNat) ((max (0 : Int) (((p.length : Nat) : Int) - (1 : Int))).toNat) (is (List.replicate (max (0 : Int) (((p.length : Nat) : Int) - (1 : Int))).toNat (0 : Int))), .row 3 1 A15 x14.length k16 (is x14)] at hS
  refine W.loop (σ := List Int × Int) (fun q w1 => match q with | (x27, z28) => I29 x27 z28 ∧ St TT w none w1 [.row 3 1 A20 ((max (0 : Int) (((p.length : Nat) : Int) - (1 : Int))).toNat) ((max (0 : Int) (((p.length : Nat) : Int) - (1 : Int))).toNat) (is x27), .row 3 1 A15 x14.length k16 (is x14)]) (fun q => match q with | (x27, z28) => [(0, .pointer (some ag)), (1, .slice Ap p.length kp), (4, .slice none 0 0), (5, .int .i64 r12), (6, .slice A20 ((max (0 : Int) (((p.length : Nat) : Int) - (1 : Int))).toNat) ((max (0 : Int) (((p.length : Nat) : Int) - (1 : Int))).toNat)), (17, .int .i64 (((max (0 : Int) (((p.length : Nat) : Int) - (1 : Int))).toNat : Nat) : Int)), (18, .int .i64 z28)]) (fun q => match q with | (x27, z28) => μ30 x27 z28) (List.replicate (max (0 : Int) (((p.length : Nat) : Int) - (1 : Int))).toNat (0 : Int), (0 : Int)) ⟨hv, hS⟩ ⟨rfl, rfl, rfl, rfl, rfl, rfl, rfl, trivial⟩ ?_
  rintro ⟨x27, z28⟩ w31 ⟨hv, hS⟩
  have hv := hk60 x27 z28 hv
  refine W.seq ?_
  refine W.region ?_
  refine WL.lssD rfl rfl rfl ?_
  refine WL.done ?_
  refine W.seq ?_
  refine W.cond2 rfl (fun c32 => ?_) (fun c32 => ?_)
  · have hv := hv.1 (of_decide_eq_true c32)
    refine W.skip ?_
    refine W.seq ?_
    refine W.block ?_
    refine W.seq ?_
    refine W.region ?_
    refine WL.move rfl rfl ?_
    refine WL.assign rfl rfl ?_
    refine WL.done ?_
    obtain ⟨o38, hv⟩ := hv
    obtain ⟨o41, hv⟩ := hv
    obtain ⟨o45, hv⟩ := hv
    obtain ⟨o47, hv⟩ := hv
    obtain ⟨r50, o52, hv⟩ := hv
    have hS0 := hS
    refine W.drawX 13 (fun _ => false) (fun _ => none) [⟨[], [6], true⟩, ⟨[], [7], true⟩, ⟨[], [0], true⟩, ⟨[], [7], true⟩, ⟨[3], [], true⟩, ⟨[], [5], true⟩, ⟨[4, 5], [], true⟩, ⟨[], [1], true⟩, ⟨[], [7], true⟩, ⟨[8], [], true⟩, ⟨[7, 9], [], true⟩, ⟨[10], [], false⟩, ⟨[2, 6, 11], [], false⟩] [[(6, .slice A20 ((max (0 : Int) (((p.length : Nat) : Int) - (1 : Int))).toNat) ((max (0 : Int) (((p.length : Nat) : Int) - (1 : Int))).toNat))], [(7, .int .i64 z28)], [(0, .pointer (some ag))], [(7, .int .i64 z28)], [], [(5, .int .i64 r12)], [], [(1, .slice Ap p.length kp)], [(7, .int .i64 z28)], [], [], [], []] (fun iQ => [fun v _ => v = .slice A20 ((max (0 : Int) (((p.length : Nat) : Int) - (1 : Int))).toNat) ((max (0 : Int) (((p.length : Nat) : Int) - (1 : Int))).toNat), fun v _ => v = .int .i64 z28, fun v _ => v = .pointer (some ag), fun v _ => v = .int .i64 z28, fun v _ => v = .int .i64 (z28 + (1 : Int)), fun v _ => v = .int .i64 r12, fun v _ => v = .int .i64 ((z28 + (1 : Int)).tmod r12), fun v _ => v = .slice Ap p.length kp, fun v _ => v = .int .i64 z28, fun v _ => v = .int .i64 (z28 + (1 : Int)), fun v _ => v = .pointer (some ((adOf Ap).add ((z28 + (1 : Int)).toNat))), fun v _ => v = .int .i64 (gi p (z28 + (1 : Int))), fun v _ => v = .int .i64 r50].getD iQ (fun _ _ => True)) Try.mixed (by kernel_rfl) ?_ (by kernel_rfl) ?_ ?_
    · refine Vs_monoT _ ?_
      intro VQ hVQ vQ wQ1 wQ2 hQ1 hQ2
      simp only [List.mem_cons, List.not_mem_nil, or_false] at hVQ
      rcases hVQ with rfl | rfl | rfl | rfl | rfl | rfl | rfl | rfl | rfl | rfl | rfl | rfl | rfl
      · exact hQ1
      · exact hQ1
      · exact hQ1
      · exact hQ1
      · exact hQ1
      · exact hQ1
      · exact hQ1
      · exact hQ1
      · exact hQ1
      · exact hQ1
      · exact hQ1
      · exact hQ1
      · exact hQ1
    · refine ⟨⟨rfl, ⟨rfl, trivial⟩, ?_⟩, ⟨rfl, ⟨rfl, trivial⟩, ?_⟩, ⟨rfl, ⟨rfl, trivial⟩, ?_⟩, ⟨rfl, ⟨rfl, trivial⟩, ?_⟩, ⟨rfl, trivial, ?_⟩, ⟨rfl, ⟨rfl, trivial⟩, ?_⟩, ⟨rfl, trivial, ?_⟩, ⟨rfl, ⟨rfl, trivial⟩, ?_⟩, ⟨rfl, ⟨rfl, trivial⟩, ?_⟩, ⟨rfl, trivial, ?_⟩, ⟨rfl, trivial, ?_⟩, ⟨rfl, trivial, ?_⟩, ⟨rfl, trivial, ?_⟩, trivial⟩
      · intro w33 hE
        intro RR
        refine WL.move rfl rfl ?_
        exact WL.done ⟨_, rfl, rfl, rfl, (fun h => absurd h (by decide)), (fun j h => by cases h)⟩
      · intro w34 hE
        intro RR
        refine WL.move rfl rfl ?_
        exact WL.done ⟨_, rfl, rfl, rfl, (fun h => absurd h (by decide)), (fun j h => by cases h)⟩
      · intro w35 hE
        intro RR
        refine WL.move rfl rfl ?_
        exact WL.done ⟨_, rfl, rfl, rfl, (fun h => absurd h (by decide)), (fun j h => by cases h)⟩
      · intro w36 hE
        intro RR
        refine WL.move rfl rfl ?_
        exact WL.done ⟨_, rfl, rfl, rfl, (fun h => absurd h (by decide)), (fun j h => by cases h)⟩
      · intro w37 hE
        rintro _ rfl
        intro RR
        refine WL.add (r := (z28 + (1 : Int))) rfl rfl (wr o38) rfl ?_
        exact WL.done ⟨_, rfl, rfl, rfl, (fun h => absurd h (by decide)), (fun j h => by cases h)⟩
      · intro w39 hE
        intro RR
        refine WL.move rfl rfl ?_
        exact WL.done ⟨_, rfl, rfl, rfl, (fun h => absurd h (by decide)), (fun j h => by cases h)⟩
      · intro w40 hE
        rintro _ rfl
        rintro _ rfl
        intro RR
        refine WL.rem (r := ((z28 + (1 : Int)).tmod r12)) rfl rfl o41 rfl rfl ?_
        exact WL.done ⟨_, rfl, rfl, rfl, (fun h => absurd h (by decide)), (fun j h => by cases h)⟩
      · intro w42 hE
        intro RR
        refine WL.move rfl rfl ?_
        exact WL.done ⟨_, rfl, rfl, rfl, (fun h => absurd h (by decide)), (fun j h => by cases h)⟩
      · intro w43 hE
        intro RR
        refine WL.move rfl rfl ?_
        exact WL.done ⟨_, rfl, rfl, rfl, (fun h => absurd h (by decide)), (fun j h => by cases h)⟩
      · intro w44 hE
        rintro _ rfl
        intro RR
        refine WL.add (r := (z28 + (1 : Int))) rfl rfl (wr o45) rfl ?_
        exact WL.done ⟨_, rfl, rfl, rfl, (fun h => absurd h (by decide)), (fun j h => by cases h)⟩
      · intro w46 hE
        rintro _ rfl
        rintro _ rfl
        intro RR
        refine SL.index Try.underlying22 Try.el3 (hS.ro hp) rfl rfl o47 rfl ?_
        exact WL.done ⟨_, rfl, rfl, rfl, (fun h => absurd h (by decide)), (fun j h => by cases h)⟩
      · intro w48 hE
        have hE := hE rfl
        have hS := hS.grow hE
        rintro _ rfl
        intro RR
        refine WL.load Try.underlying3 rfl rfl (Rd.gi (hS.ro hp) o47) rfl ?_
        exact WL.done ⟨_, rfl, ext_refl _, rfl, (fun h => absurd h (by decide)), (fun j h => by cases h)⟩
      · intro w49 hE
        have hE := hE rfl
        have hS := hS.grow hE
        rintro _ rfl
        rintro _ rfl
        rintro _ rfl
        intro RR
        refine WL.call Try.func74 rfl Try.nm74 rfl rfl (calls_un (ok_Mul (GFR.ext (GFR.norm hgg) hS.ext) o52)) ?_
        rintro _ w51 ⟨_, hGw51, hRww51, hNww51, r50q, rfl, rfl, he⟩
        subst he
        exact WL.done ⟨_, rfl, hGw51, rfl, (fun h => absurd h (by decide)), (fun j h => by cases h)⟩
    · intro vals w53 hT hVs hAp hCp
      have hS := hS.grow hT
      have hv0 : vals 0 = _ := hVs 0 (by decide)
      have hv1 : vals 1 = _ := hVs 1 (by decide)
      have hv2 : vals 2 = _ := hVs 2 (by decide)
      have hv3 : vals 3 = _ := hVs 3 (by decide)
      have hv4 : vals 4 = _ := hVs 4 (by decide)
      have hv5 : vals 5 = _ := hVs 5 (by decide)
      have hv6 : vals 6 = _ := hVs 6 (by decide)
      have hv7 : vals 7 = _ := hVs 7 (by decide)
      have hv8 : vals 8 = _ := hVs 8 (by decide)
      have hv9 : vals 9 = _ := hVs 9 (by decide)
      have hv10 : vals 10 = _ := hVs 10 (by decide)
      have hv11 : vals 11 = _ := hVs 11 (by decide)
      have hv12 : vals 12 = _ := hVs 12 (by decide)
      rw [show (List.filterMap (fun i => Option.map (fun t => (t, vals i)) (dstAt _ i)) (List.range _)) = [(21, .slice A20 ((max (0 : Int) (((p.length : Nat) : Int) - (1 : Int))).toNat) ((max (0 : Int) (((p.length : Nat) : Int) - (1 : Int))).toNat)), (22, .int .i64 z28), (23, .pointer (some ag)), (24, .int .i64 z28), (25, .int .i64 (z28 + (1 : Int))), (26, .int .i64 r12), (27, .int .i64 ((z28 + (1 : Int)).tmod r12)), (28, .slice Ap p.length kp), (29, .int .i64 z28), (30, .int .i64 (z28 + (1 : Int))), (31, .pointer (some ((adOf Ap).add ((z28 + (1 : Int)).toNat)))), (32, .int .i64 (gi p (z28 + (1 : Int)))), (33, .int .i64 r50)] from by
        show [(21, vals 0), (22, vals 1), (23, vals 2), (24, vals 3), (25, vals 4), (26, vals 5), (27, vals 6), (28, vals 7), (29, vals 8), (30, vals 9), (31, vals 10), (32, vals 11), (33, vals 12)] = _
        rw [hv0, hv1, hv2, hv3, hv4, hv5, hv6, hv7, hv8, hv9, hv10, hv11, hv12]]
      refine WA.step [13] (by decide +kernel) rfl ?_
      intro iQ hQ
      simp only [List.mem_cons, List.not_mem_nil, or_false] at hQ
      obtain rfl := hQ
      refine ⟨_, rfl, ?_⟩
      obtain ⟨o54, hv⟩ := hv
      refine SL.index Try.underlying22 Try.el3 (hS.rd (i := 0) rfl) rfl rfl o54 rfl ?_
      refine WL.done ?_
      refine WA.step [14] (by decide +kernel) rfl ?_
      intro iQ hQ
      simp only [List.mem_cons, List.not_mem_nil, or_false] at hQ
      obtain rfl := hQ
      refine ⟨_, rfl, ?_⟩
      refine SL.store (cs' := is (si x27 z28 r50)) 0 z28.toNat hS rfl Try.el3 rfl rfl rfl (is_lt (hS.rd (i := 0) rfl) o54) (is_set _ _ _) ?_
      intro w55 hS
      refine WL.done ?_
      refine WA.done (by decide +kernel) ?_
      refine W.region ?_
      obtain ⟨o56, hv⟩ := hv
      refine WL.add (r := (z28 + (1 : Int))) rfl rfl (wr o56) rfl ?_
      refine WL.move rfl rfl ?_
      refine WL.done ?_
      change St _ _ _ _ [.row 3 1 A20 ((max (0 : Int) (((p.length : Nat) : Int) - (1 : Int))).toNat) ((max (0 : Int) (((p.length : Nat) : Int) - (1 : Int))).toNat) (is (si x27 z28 r50)), .row 3 1 A15 x14.length k16 (is x14)] at hS
      exact ⟨(si x27 z28 r50, (z28 + (1 : Int))), ⟨rfl, rfl, rfl, rfl, rfl, rfl, rfl, trivial⟩, hv.2, rfl, hv.1, hS⟩
  · have hv := hv.2 (of_decide_eq_false c32)
    refine W.exit ?_
    refine W.seq ?_
    refine W.region ?_
    refine WL.move rfl rfl ?_
    refine WL.move rfl rfl ?_
    refine SL.call hS (ok_trim (GFR.ext (GFR.norm hgg) hS.ext) (hS.rd (i := 0) rfl) hv) Try.func71 rfl Try.nm71 rfl rfl ?_
    rintro _ _ w57 ⟨j58, rfl, rfl, hv⟩ hGw57 hS
    change St _ _ _ _ [.row 3 1 A20 ((max (0 : Int) (((p.length : Nat) : Int) - (1 : Int))).toNat) ((max (0 : Int) (((p.length : Nat) : Int) - (1 : Int))).toNat) (is x27), .row 3 1 A15 x14.length k16 (is x14)] at hS
    obtain ⟨o59, hv⟩ := hv
    refine WL.assign rfl rfl ?_
    refine WL.done ?_
    refine W.ret ?_
    have hq0 := (hS.rd (i := 0) rfl).ilen
    have hS := hS.shrink (i := 0) (k := j58.toNat) rfl (by omega)
    have hl0 : (x27.take j58.toNat).length = j58.toNat := by rw [List.length_take]; omega
    refine ⟨_, rfl, Fin.nil ?_⟩
    exact ⟨_, hS.ext, (hS.pick [0] rfl).rows, News.of (hS.pick [0] rfl).rows rfl, ⟨x27.take j58.toNat, A20, (max (0 : Int) (((p.length : Nat) : Int) - (1 : Int))).toNat, (by first | (rw [hl0]; done) | (rw [hl0]; rfl)), rfl, hv⟩⟩

end Go.Proofs.Ytmdigamgojfjdaa
set_option linter.unusedSimpArgs false
set_option linter.unusedVariables false
namespace Go.Proofs.Ytmdigamgojfjdaa
open Go.RowKit
def V_rtimes (Pf : Int) (Mf : Int) (mf : List Int) (n : Int) (x : Int) (Q : Int → Prop) : Prop :=
  ∃ (I19 : Int → Int → Prop) (μ20 : Int → Int → Nat), I19 (0 : Int) (0 : Int) ∧ ∀ (z17 : Int) (z18 : Int), (I19 z17 z18 → ((Pf ≠ 0) ∧ (((z18 < (n.tmod Pf)) → (V_rAdd Pf Mf mf z17 x (fun r25 => (I64 (z18 + (1 : Int))) ∧ (I19 r25 (z18 + (1 : Int)) ∧ μ20 r25 (z18 + (1 : Int)) < μ20 z17 z18)))) ∧ (¬ (z18 < (n.tmod Pf)) → Q z17))))
theorem ok_rtimes {w : World} {Q : Int → Prop} {Pf : Int} {Mf : Int} {mf : List Int} {n : Int} {x : Int} {Bf : Nat} {Af : Option Addr} {nf kf : Nat} (hf : Rd Bf w 1 Af nf kf (is mf)) (hv : V_rtimes Pf Mf mf n x Q) :
    Calls Try.prog 83 #[.agg #[.int .i64 Pf, .int .i64 Mf, .slice Af nf kf], .int .i64 n, .int .i64 x] w fun e w' => ∃ v Qr, e = .returned v ∧ w.grownBy w' none ∧ Rows w.heap.size none w' Qr ∧ News w.heap.size Qr ∧ ∃ (r0 : Int), v = .int .i64 r0 ∧ Qr = [] ∧ Q r0 := by
  have hnf := hf.ilen
  subst hnf
  refine calls_swap ?_
  refine calls_of_W (vs := [.agg #[.int .i64 Pf, .int .i64 Mf, .slice Af mf.length kf], .int .i64 n, .int .i64 x]) [6] Try.func83 rfl rfl rfl rfl ?_
  have hS := St.start w
  unfold V_rtimes at hv
  refine W.seq ?_
  refine W.region ?_
  refine SL.box (z := 3) (cs := [.int .i64 Pf, .int .i64 Mf, .slice Af mf.length kf]) hS rfl rfl rfl rfl ?_
  intro g11 w12 hS
  refine WL.assign rfl rfl ?_
  refine WL.done ?_
  refine W.seq ?_
  refine W.region ?_
  refine WL.assign rfl rfl ?_
  refine WL.done ?_
  refine W.seq ?_
  refine W.seq ?_
  refine W.region ?_
  refine WL.assign rfl rfl ?_
  refine WL.done ?_
  refine W.block ?_
  obtain ⟨I19, μ20, hv, hk27⟩ := hv
  change St _ _ _ _ [.row 24 3 (some ⟨g11, 0, none⟩) 1 1 [.int .i64 Pf, .int .i64 Mf, .slice Af mf.length kf]] at hS
  refine W.loop (σ := Int × Int) (fun q w1 => match q with | (z17, z18) => I19 z17 z18 ∧ St TT w none w1 [.row 24 3 (some ⟨g11, 0, none⟩) 1 1 [.int .i64 Pf, .int .i64 Mf, .slice Af mf.length kf]]) (fun q => match q with | (z17, z18) => [(1, .int .i64 n), (2, .int .i64 x), (3, .pointer (some ⟨g11, 0, none⟩)), (6, .int .i64 (0 : Int)), (7, .int .i64 z17), (8, .int .i64 z18)]) (fun q => match q with | (z17, z18) => μ20 z17 z18) ((0 : Int), (0 : Int)) ⟨hv, hS⟩ ⟨rfl, rfl, rfl, rfl, rfl, rfl, trivial⟩ ?_
  rintro ⟨z17, z18⟩ w21 ⟨hv, hS⟩
  have hv := hk27 z17 z18 hv
  refine W.seq ?_
  refine W.seq ?_
  refine W.region ?_
  refine WL.move rfl rfl ?_
  refine WL.move rfl rfl ?_
  refine WL.fieldA (off := 0) Try.fla24_0 rfl rfl ?_
  refine WL.load Try.underlying3 rfl rfl (Own.vcells (hS.own (i := 0) rfl) 0 _ rfl) rfl ?_
  obtain ⟨o22, hv⟩ := hv
  refine WL.rem (r := (n.tmod Pf)) rfl rfl o22 rfl rfl ?_
  refine WL.lssD rfl rfl rfl ?_
  refine WL.done ?_
  refine W.cond2 rfl (fun c23 => ?_) (fun c23 => ?_)
  · have hv := hv.1 (of_decide_eq_true c23)
    refine W.skip ?_
    refine W.seq ?_
    refine W.block ?_
    refine W.region ?_
    refine WL.loadV (cs := [.int .i64 Pf, .int .i64 Mf, .slice Af mf.length kf]) Try.el24 Try.agg24 rfl rfl (Own.vcells (hS.own (i := 0) rfl)) rfl ?_
    refine WL.move rfl rfl ?_
    refine WL.move rfl rfl ?_
    refine SL.call hS (ok_rAdd (hS.ro hf) hv) Try.func46 rfl Try.nm46 rfl rfl ?_
    rintro _ _ w24 ⟨r25, rfl, rfl, hv⟩ hGw24 hS
    change St _ _ _ _ [.row 24 3 (some ⟨g11, 0, none⟩) 1 1 [.int .i64 Pf, .int .i64 Mf, .slice Af mf.length kf]] at hS
    refine WL.assign rfl rfl ?_
    refine WL.done ?_
    refine W.region ?_
    refine WL.move rfl rfl ?_
    obtain ⟨o26, hv⟩ := hv
    refine WL.add (r := (z18 + (1 : Int))) rfl rfl (wr o26) rfl ?_
    refine WL.assign rfl rfl ?_
    refine WL.done ?_
    change St _ _ _ _ [.row 24 3 (some ⟨g11, 0, none⟩) 1 1 [.int .i64 Pf, .int .i64 Mf, .slice Af mf.length kf]] at hS
    exact ⟨(r25, (z18 + (1 : Int))), ⟨rfl, rfl, rfl, rfl, rfl, rfl, trivial⟩, hv.2, rfl, hv.1, hS⟩
  · have hv := hv.2 (of_decide_eq_false c23)
    refine W.exit ?_
    refine W.seq ?_
    refine W.region ?_
    refine WL.move rfl rfl ?_
    refine WL.assign rfl rfl ?_
    refine WL.done ?_
    refine W.ret ?_
    refine ⟨_, rfl, Fin.nil ?_⟩
    exact ⟨_, hS.ext, (hS.pick [] rfl).rows, News.of (hS.pick [] rfl).rows rfl, ⟨z17, rfl, rfl, hv⟩⟩

def V_rderiv (Pf : Int) (Mf : Int) (mf : List Int) (p : List Int) (Q : List Int → Prop) : Prop :=
  ((((p.length : Nat) : Int) = (0 : Int)) → (Q ([] : List Int))) ∧ (¬ (((p.length : Nat) : Int) = (0 : Int)) → ((I64 (((p.length : Nat) : Int) - (1 : Int))) ∧ ((0 ≤ (((p.length : Nat) : Int) - (1 : Int)) ∧ (((p.length : Nat) : Int) - (1 : Int)) * 8 ≤ 281474976710656 ∧ (((p.length : Nat) : Int) - (1 : Int)) ≤ 281474976710656) ∧ (∃ (I25 : List Int → Int → Prop) (μ26 : List Int → Int → Nat), I25 (List.replicate (((p.length : Nat) : Int) - (1 : Int)).toNat (0 : Int)) (0 : Int) ∧ ∀ (x23 : List Int) (z24 : Int), (I25 x23 z24 → (((z24 < (((((p.length : Nat) : Int) - (1 : Int)).toNat : Nat) : Int)) → ((I64 (z24 + (1 : Int))) ∧ ((I64 (z24 + (1 : Int))) ∧ ((0 ≤ (z24 + (1 : Int)) ∧ (z24 + (1 : Int)) < (p.length : Nat)) ∧ (∃ (r43 : Int), V_rtimes Pf Mf mf (z24 + (1 : Int)) (gi p (z24 + (1 : Int))) (fun q => q = r43) ∧ ((0 ≤ z24 ∧ z24 < ((((p.length : Nat) : Int) - (1 : Int)).toNat : Nat)) ∧ ((I64 (z24 + (1 : Int))) ∧ (I25 (si x23 z24 r43) (z24 + (1 : Int)) ∧ μ26 (si x23 z24 r43) (z24 + (1 : Int)) < μ26 x23 z24)))))))) ∧ (¬ (z24 < (((((p.length : Nat) : Int) - (1 : Int)).toNat : Nat) : Int)) → (V_rcanon Pf Mf mf x23 (fun x51 => Q x51)))))))))
theorem ok_rderiv {w : World} {Q : List Int → Prop} {Pf : Int} {Mf : Int} {mf : List Int} {p : List Int} {Bf : Nat} {Af : Option Addr} {nf kf : Nat} (hf : Rd Bf w 1 Af nf kf (is mf)) {Bp : Nat} {Ap : Option Addr} {np kp : Nat} (hp : Rd Bp w 1 Ap np kp (is p)) (hv : V_rderiv Pf Mf mf p Q) :
    Calls Try.prog 50 #[.agg #[.int .i64 Pf, .int .i64 Mf, .slice Af nf kf], .slice Ap np kp] w fun e w' => ∃ v Qr, e = .returned v ∧ w.grownBy w' none ∧ Rows w.heap.size none w' Qr ∧ News w.heap.size Qr ∧ ∃ (r0 : List Int) (Ar0 : Option Addr) (cr0 : Nat), v = .slice Ar0 r0.length cr0 ∧ Qr = [.row 3 1 Ar0 r0.length cr0 (is r0)] ∧ Q r0 := by
  have hnf := hf.ilen
  subst hnf
  have hnp := hp.ilen
  subst hnp
  refine calls_swap ?_
  refine calls_of_W (vs := [.agg #[.int .i64 Pf, .int .i64 Mf, .slice Af mf.length kf], .slice Ap p.length kp]) [4] Try.func50 rfl rfl rfl rfl ?_
  have hS := St.start w
  unfold V_rderiv at hv
  refine W.seq ?_
  refine W.region ?_
  refine SL.box (z := 3) (cs := [.int .i64 Pf, .int .i64 Mf, .slice Af mf.length kf]) hS rfl rfl rfl rfl ?_
  intro g11 w12 hS
  refine WL.assign rfl rfl ?_
  refine WL.done ?_
  refine W.seq ?_
  refine W.seq ?_
  refine W.region ?_
  refine WL.move rfl rfl ?_
  refine WL.len Try.underlying22 rfl rfl ?_
  refine WL.eqlD rfl rfl rfl ?_
  refine WL.done ?_
  refine W.cond2 rfl (fun c13 => ?_) (fun c13 => ?_)
  · have hv := hv.1 (of_decide_eq_true c13)
    refine W.seq ?_
    refine W.region ?_
    refine WL.assign rfl rfl ?_
    refine WL.done ?_
    refine W.ret ?_
    have hS := hS.nil (e := 3) (z := 1)
    refine ⟨_, rfl, Fin.nil ?_⟩
    exact ⟨_, hS.ext, (hS.pick [0] rfl).rows, News.of (hS.pick [0] rfl).rows rfl, ⟨([] : List Int), none, 0, rfl, rfl, hv⟩⟩
  · have hv := hv.2 (of_decide_eq_false c13)
    refine W.skip ?_
    refine W.seq ?_
    refine W.region ?_
    refine WL.move rfl rfl ?_
    refine WL.len Try.underlying22 rfl rfl ?_
    obtain ⟨o14, hv⟩ := hv
    refine WL.sub (r := (((p.length : Nat) : Int) - (1 : Int))) rfl rfl (wr o14) rfl ?_
    obtain ⟨o15, hv⟩ := hv
    refine SL.make (J := (((p.length : Nat) : Int) - (1 : Int))) hS Try.underlying22 Try.el3 rfl rfl o15 (made_is _) rfl ?_
    intro A16 w17 hS
    refine WL.assign rfl rfl ?_
    refine WL.done ?_
    refine W.seq ?_
    refine W.seq ?_
    refine W.region ?_
    refine WL.assign rfl rfl ?_
    refine WL.done ?_
    refine W.block ?_
    obtain ⟨I25, μ26, hv, hk55⟩ := hv
    change St _ _ _ _ [.row 3 1 A16 ((((p.length : Nat) : Int) - (1 : Int)).toNat) ((((p.length : Nat) : Int) - (1 : Int)).toNat) (is (List.replicate (((p.length : Nat) : Int) - (1 : Int)).toNat (0 : Int))), .row 24 3 (some ⟨g11, 0, none⟩) 1 1 [.int .i64 Pf, .int .i64 Mf, .slice Af mf.length kf]] at hS
    refine W.loop (σ := List Int × Int) (fun q w1 => match q with | (x23, z24) => I25 x23 z24 ∧ St TT w none w1 [.row 3 1 A16 ((((p.length : Nat) : Int) - (1 : Int)).toNat) ((((p.length : Nat) : Int) - (1 : Int)).toNat) (is x23), .row 24 3 (some ⟨g11, 0, none⟩) 1 1 [.int .i64 Pf, .int .i64 Mf, .slice Af mf.length kf]]) (fun q => match q with | (x23, z24) => [(1, .slice Ap p.length kp), (2, .pointer (some ⟨g11, 0, none⟩)), (4, .slice none 0 0), (5, .slice A16 ((((p.length : Nat) : Int) - (1 : Int)).toNat) ((((p.length : Nat) : Int) - (1 : Int)).toNat)), (6, .int .i64 z24)]) (fun q => match q with | (x23, z24) => μ26 x23 z24) (List.replicate (((p.length : Nat) : Int) - (1 : Int)).toNat (0 : Int), (0 : Int)) ⟨hv, hS⟩ ⟨rfl, rfl, rfl, rfl, rfl, trivial⟩ ?_
    rintro ⟨x23, z24⟩ w27 ⟨hv, hS⟩
    have hv := hk55 x23 z24 hv
    refine W.seq ?_
    refine W.seq ?_
    refine W.region ?_
    refine WL.move rfl rfl ?_
    refine WL.move rfl rfl ?_
    refine WL.len Try.underlying22 rfl rfl ?_
    refine WL.lssD rfl rfl rfl ?_
    refine WL.done ?_
    refine W.cond2 rfl (fun c28 => ?_) (fun c28 => ?_)
    · have hv := hv.1 (of_decide_eq_true c28)
      refine W.skip ?_
      refine W.seq ?_
      refine W.block ?_
      obtain ⟨o34, hv⟩ := hv
      obtain ⟨o38, hv⟩ := hv
      obtain ⟨o40, hv⟩ := hv
      obtain ⟨r43, o45, hv⟩ := hv
      have hS0 := hS
      refine W.drawX 11 (fun _ => false) (fun _ => none) [⟨[], [5], true⟩, ⟨[], [6], true⟩, ⟨[], [2], false⟩, ⟨[], [6], true⟩, ⟨[3], [], true⟩, ⟨[], [1], true⟩, ⟨[], [6], true⟩, ⟨[6], [], true⟩, ⟨[5, 7], [], true⟩, ⟨[8], [], false⟩, ⟨[2, 4, 9], [], false⟩] [[(5, .slice A16 ((((p.length : Nat) : Int) - (1 : Int)).toNat) ((((p.length : Nat) : Int) - (1 : Int)).toNat))], [(6, .int .i64 z24)], [(2, .pointer (some ⟨g11, 0, none⟩))], [(6, .int .i64 z24)], [], [(1, .slice Ap p.length kp)], [(6, .int .i64 z24)], [], [], [], []] (fun iQ => [fun v _ => v = .slice A16 ((((p.length : Nat) : Int) - (1 : Int)).toNat) ((((p.length : Nat) : Int) - (1 : Int)).toNat), fun v _ => v = .int .i64 z24, fun v _ => v = .agg #[.int .i64 Pf, .int .i64 Mf, .slice Af mf.length kf], fun v _ => v = .int .i64 z24, fun v _ => v = .int .i64 (z24 + (1 : Int)), fun v _ => v = .slice Ap p.length kp, fun v _ => v = .int .i64 z24, fun v _ => v = .int .i64 (z24 + (1 : Int)), fun v _ => v = .pointer (some ((adOf Ap).add ((z24 + (1 : Int)).toNat))), fun v _ => v = .int .i64 (gi p (z24 + (1 : Int))), fun v _ => v = .int .i64 r43].getD iQ (fun _ _ => True)) Try.mixed (by kernel_rfl) ?_ (by kernel_rfl) ?_ ?_
      · refine Vs_monoT _ ?_
        intro VQ hVQ vQ wQ1 wQ2 hQ1 hQ2
        simp only [List.mem_cons, List.not_mem_nil, or_false] at hVQ
        rcases hVQ with rfl | rfl | rfl | rfl | rfl | rfl | rfl | rfl | rfl | rfl | rfl
        · exact hQ1
        · exact hQ1
        · exact hQ1
        · exact hQ1
        · exact hQ1
        · exact hQ1
        · exact hQ1
        · exact hQ1
        · exact hQ1
        · exact hQ1
        · exact hQ1
      · refine ⟨⟨rfl, ⟨rfl, trivial⟩, ?_⟩, ⟨rfl, ⟨rfl, trivial⟩, ?_⟩, ⟨rfl, ⟨rfl, trivial⟩, ?_⟩, ⟨rfl, ⟨rfl, trivial⟩, ?_⟩, ⟨rfl, trivial, ?_⟩, ⟨rfl, ⟨rfl, trivial⟩, ?_⟩, ⟨rfl, ⟨rfl, trivial⟩, ?_⟩, ⟨rfl, trivial, ?_⟩, ⟨rfl, trivial, ?_⟩, ⟨rfl, trivial, ?_⟩, ⟨rfl, trivial, ?_⟩, trivial⟩
        · intro w29 hE
          intro RR
          refine WL.move rfl rfl ?_
          exact WL.done ⟨_, rfl, rfl, rfl, (fun h => absurd h (by decide)), (fun j h => by cases h)⟩
        · intro w30 hE
          intro RR
          refine WL.move rfl rfl ?_
          exact WL.done ⟨_, rfl, rfl, rfl, (fun h => absurd h (by decide)), (fun j h => by cases h)⟩
        · intro w31 hE
          have hE := hE rfl
          have hS := hS.grow hE
          intro RR
          refine WL.loadV (cs := [.int .i64 Pf, .int .i64 Mf, .slice Af mf.length kf]) Try.el24 Try.agg24 rfl rfl (Own.vcells (hS.own (i := 1) rfl)) rfl ?_
          exact WL.done ⟨_, rfl, ext_refl _, rfl, (fun h => absurd h (by decide)), (fun j h => by cases h)⟩
        · intro w32 hE
          intro RR
          refine WL.move rfl rfl ?_
          exact WL.done ⟨_, rfl, rfl, rfl, (fun h => absurd h (by decide)), (fun j h => by cases h)⟩
        · intro w33 hE
          rintro _ rfl
          intro RR
          refine WL.add (r := (z24 + (1 : Int))) rfl rfl (wr o34) rfl ?_
          exact WL.done ⟨_, rfl, rfl, rfl, (fun h => absurd h (by decide)), (fun j h => by cases h)⟩
        · intro w35 hE
          intro RR
          refine WL.move rfl rfl ?_
          exact WL.done ⟨_, rfl, rfl, rfl, (fun h => absurd h (by decide)), (fun j h => by cases h)⟩
        · intro w36 hE
          intro RR
          refine WL.move rfl rfl ?_
          exact WL.done ⟨_, rfl, rfl, rfl, (fun h => absurd h (by decide)), (fun j h => by cases h)⟩
        · intro w37 hE
          rintro _ rfl
          intro RR
          refine WL.add (r := (z24 + (1 : Int))) rfl rfl (wr o38) rfl ?_
          exact WL.done ⟨_, rfl, rfl, rfl, (fun h => absurd h (by decide)), (fun j h => by cases h)⟩
        · intro w39 hE
          rintro _ rfl
          rintro _ rfl
          intro RR
          refine SL.index Try.underlying22 Try.el3 (hS.ro hp) rfl rfl o40 rfl ?_
          exact WL.done ⟨_, rfl, rfl, rfl, (fun h => absurd h (by decide)), (fun j h => by cases h)⟩
        · intro w41 hE
          have hE := hE rfl
          have hS := hS.grow hE
          rintro _ rfl
          intro RR
          refine WL.load Try.underlying3 rfl rfl (Rd.gi (hS.ro hp) o40) rfl ?_
          exact WL.done ⟨_, rfl, ext_refl _, rfl, (fun h => absurd h (by decide)), (fun j h => by cases h)⟩
        · intro w42 hE
          have hE := hE rfl
          have hS := hS.grow hE
          rintro _ rfl
          rintro _ rfl
          rintro _ rfl
          intro RR
          refine WL.call Try.func83 rfl Try.nm83 rfl rfl (calls_un (ok_rtimes (hS.ro hf) o45)) ?_
          rintro _ w44 ⟨_, hGw44, hRww44, hNww44, r43q, rfl, rfl, he⟩
          subst he
          exact WL.done ⟨_, rfl, hGw44, rfl, (fun h => absurd h (by decide)), (fun j h => by cases h)⟩
      · intro vals w46 hT hVs hAp hCp
        have hS := hS.grow hT
        have hv0 : vals 0 = _ := hVs 0 (by decide)
        have hv1 : vals 1 = _ := hVs 1 (by decide)
        have hv2 : vals 2 = _ := hVs 2 (by decide)
        have hv3 : vals 3 = _ := hVs 3 (by decide)
        have hv4 : vals 4 = _ := hVs 4 (by decide)
        have hv5 : vals 5 = _ := hVs 5 (by decide)
        have hv6 : vals 6 = _ := hVs 6 (by decide)
        have hv7 : vals 7 = _ := hVs 7 (by decide)
        have hv8 : vals 8 = _ := hVs 8 (by decide)
        have hv9 : vals 9 = _ := hVs 9 (by decide)
        have hv10 : vals 10 = _ := hVs 10 (by decide)
        rw [show (List.filterMap (fun i => Option.map (fun t => (t, vals i)) (dstAt _ i)) (List.range _)) = [(20, .slice A16 ((((p.length : Nat) : Int) - (1 : Int)).toNat) ((((p.length : Nat) : Int) - (1 : Int)).toNat)), (21, .int .i64 z24), (22, .agg #[.int .i64 Pf, .int .i64 Mf, .slice Af mf.length kf]), (23, .int .i64 z24), (24, .int .i64 (z24 + (1 : Int))), (25, .slice Ap p.length kp), (26, .int .i64 z24), (27, .int .i64 (z24 + (1 : Int))), (28, .pointer (some ((adOf Ap).add ((z24 + (1 : Int)).toNat)))), (29, .int .i64 (gi p (z24 + (1 : Int)))), (30, .int .i64 r43)] from by
          show [(20, vals 0), (21, vals 1), (22, vals 2), (23, vals 3), (24, vals 4), (25, vals 5), (26, vals 6), (27, vals 7), (28, vals 8), (29, vals 9), (30, vals 10)] = _
          rw [hv0, hv1, hv2, hv3, hv4, hv5, hv6, hv7, hv8, hv9, hv10]]
        refine WA.step [11] (by decide +kernel) rfl ?_
        intro iQ hQ
        simp only [List.mem_cons, List.not_mem_nil, or_false] at hQ
        obtain rfl := hQ
        refine ⟨_, rfl, ?_⟩
        obtain ⟨o47, hv⟩ := hv
        refine SL.index Try.underlying22 Try.el3 (hS.rd (i := 0) rfl) rfl rfl o47 rfl ?_
        refine WL.done ?_
        refine WA.step [12] (by decide +kernel) rfl ?_
        intro iQ hQ
        simp only [List.mem_cons, List.not_mem_nil, or_false] at hQ
        obtain rfl := hQ
        refine ⟨_, rfl, ?_⟩
        refine SL.store (cs' := is (si x23 z24 r43)) 0 z24.toNat hS rfl Try.el3 rfl rfl rfl (is_lt (hS.rd (i := 0) rfl) o47) (is_set _ _ _) ?_
        intro w48 hS
        refine WL.done ?_
        refine WA.done (by decide +kernel) ?_
        refine W.region ?_
        refine WL.move rfl rfl ?_
        obtain ⟨o49, hv⟩ := hv
        refine WL.add (r := (z24 + (1 : Int))) rfl rfl (wr o49) rfl ?_
        refine WL.assign rfl rfl ?_
        refine WL.done ?_
        change St _ _ _ _ [.row 3 1 A16 ((((p.length : Nat) : Int) - (1 : Int)).toNat) ((((p.length : Nat) : Int) - (1 : Int)).toNat) (is (si x23 z24 r43)), .row 24 3 (some ⟨g11, 0, none⟩) 1 1 [.int .i64 Pf, .int .i64 Mf, .slice Af mf.length kf]] at hS
        exact ⟨(si x23 z24 r43, (z24 + (1 : Int))), ⟨rfl, rfl, rfl, rfl, rfl, trivial⟩, hv.2, rfl, hv.1, hS⟩
    · have hv := hv.2 (of_decide_eq_false c28)
      refine W.exit ?_
      refine W.seq ?_
      refine W.region ?_
      refine WL.loadV (cs := [.int .i64 Pf, .int .i64 Mf, .slice Af mf.length kf]) Try.el24 Try.agg24 rfl rfl (Own.vcells (hS.own (i := 1) rfl)) rfl ?_
      refine WL.move rfl rfl ?_
      refine SL.call hS (ok_rcanon (hS.ro hf) (hS.rd (i := 0) rfl) hv) Try.func24 rfl Try.nm24 rfl rfl ?_
      rintro _ _ w50 ⟨x51, A52, k53, rfl, rfl, hv⟩ hGw50 hS
      change St _ _ _ _ [.row 3 1 A52 x51.length k53 (is x51), .row 3 1 A16 ((((p.length : Nat) : Int) - (1 : Int)).toNat) ((((p.length : Nat) : Int) - (1 : Int)).toNat) (is x23), .row 24 3 (some ⟨g11, 0, none⟩) 1 1 [.int .i64 Pf, .int .i64 Mf, .slice Af mf.length kf]] at hS
      refine WL.assign rfl rfl ?_
      refine WL.done ?_
      refine W.ret ?_
      refine ⟨_, rfl, Fin.nil ?_⟩
      exact ⟨_, hS.ext, (hS.pick [0] rfl).rows, News.of (hS.pick [0] rfl).rows rfl, ⟨x51, A52, k53, rfl, rfl, hv⟩⟩

end Go.Proofs.Ytmdigamgojfjdaa
set_option linter.unusedSimpArgs false
set_option linter.unusedVariables false
namespace Go.Proofs.Ytmdigamgojfjdaa
open Go.RowKit
def V_PolyDerives (Pf : Int) (Mf : Int) (mf : List Int) (p : List Int) (t : List Int) (Q : Bool → Prop) : Prop :=
  V_alive  (fun r14 => (((!r14) = true) → Q false) ∧ ((!r14) = false → (V_made Pf Mf mf (fun q => match q with | none => Q true | some F19 => V_short ([p, t] : List (List Int)) (fun r29 => (((!r29) = true) → Q true) ∧ ((!r29) = false → (V_deriv F19 p (fun x32 => V_deriv F19 t (fun x37 => V_rderiv Pf Mf mf p (fun x42 => V_lsame x32 x42 (fun r47 => (((!r47) = true) → Q false) ∧ ((!r47) = false → (V_rderiv Pf Mf mf t (fun x50 => V_lsame x37 x50 (fun r55 => (((!r55) = true) → Q false) ∧ ((!r55) = false → (V_pmul F19 ([p, t] : List (List Int)) (fun x61 => V_deriv F19 x61 (fun x66 => V_pmul F19 ([x32, t] : List (List Int)) (fun x74 => V_pmul F19 ([p, x37] : List (List Int)) (fun x82 => V_padd F19 x74 x82 (fun x87 => V_lsame x66 x87 (fun r92 => Q r92)))))))))))))))))))))))
theorem ok_PolyDerives {w : World} {Q : Bool → Prop} {Pf : Int} {Mf : Int} {mf : List Int} {p : List Int} {t : List Int} {Bf : Nat} {Af : Option Addr} {nf kf : Nat} (hf : Rd Bf w 1 Af nf kf (is mf)) {Bp : Nat} {Ap : Option Addr} {np kp : Nat} (hp : Rd Bp w 1 Ap np kp (is p)) {Bt : Nat} {At : Option Addr} {nt kt : Nat} (ht : Rd Bt w 1 At nt kt (is t)) (hv : V_PolyDerives Pf Mf mf p t Q) :
    Calls Try.prog 13 #[.agg #[.int .i64 Pf, .int .i64 Mf, .slice Af nf kf], .slice Ap np kp, .slice At nt kt] w fun e w' => ∃ v Qr, e = .returned v ∧ w.grownBy w' none ∧ Rows w.heap.size none w' Qr ∧ News w.heap.size Qr ∧ ∃ (r0 : Bool), v = .bool r0 ∧ Qr = [] ∧ Q r0 := by
  have hnf := hf.ilen
  subst hnf
  have hnp := hp.ilen
  subst hnp
  have hnt := ht.ilen
  subst hnt
  refine calls_swap ?_
  refine calls_of_W (vs := [.agg #[.int .i64 Pf, .int .i64 Mf, .slice Af mf.length kf], .slice Ap p.length kp, .slice At t.length kt]) [6] Try.func13 rfl rfl rfl rfl ?_
  have hS := St.start w
  unfold V_PolyDerives at hv
  refine W.seq ?_
  refine W.region ?_
  refine SL.box (z := 3) (cs := [.int .i64 Pf, .int .i64 Mf, .slice Af mf.length kf]) hS rfl rfl rfl rfl ?_
  intro g11 w12 hS
  refine WL.assign rfl rfl ?_
  refine WL.done ?_
  refine W.seq ?_
  refine W.seq ?_
  refine W.region ?_
  refine SL.call hS (ok_alive  hv) Try.func20 rfl Try.nm20 rfl rfl ?_
  rintro _ _ w13 ⟨r14, rfl, rfl, hv⟩ hGw13 hS
  change St _ _ _ _ [.row 24 3 (some ⟨g11, 0, none⟩) 1 1 [.int .i64 Pf, .int .i64 Mf, .slice Af mf.length kf]] at hS
  refine WL.not rfl rfl ?_
  refine WL.done ?_
  refine W.cond2 rfl (fun c15 => ?_) (fun c15 => ?_)
  · have hv := hv.1 (c15)
    refine W.seq ?_
    refine W.region ?_
    refine WL.assign rfl rfl ?_
    refine WL.done ?_
    refine W.ret ?_
    refine ⟨_, rfl, Fin.nil ?_⟩
    exact ⟨_, hS.ext, (hS.pick [] rfl).rows, News.of (hS.pick [] rfl).rows rfl, ⟨false, rfl, rfl, hv⟩⟩
  · have hv := hv.2 (c15)
    refine W.skip ?_
    refine W.seq ?_
    refine W.region ?_
    refine WL.loadV (cs := [.int .i64 Pf, .int .i64 Mf, .slice Af mf.length kf]) Try.el24 Try.agg24 rfl rfl (Own.vcells (hS.own (i := 0) rfl)) rfl ?_
    refine SL.call hS (ok_made (hS.ro hf) hv) Try.func21 rfl Try.nm21 rfl rfl ?_
    rintro _ _ w17 ⟨o, hv, hK⟩ hGw17 hS
    cases o with
    | none =>
      obtain ⟨rfl, rfl⟩ := hK
      change St _ _ _ _ [.row 24 3 (some ⟨g11, 0, none⟩) 1 1 [.int .i64 Pf, .int .i64 Mf, .slice Af mf.length kf]] at hS
      refine WL.assign rfl rfl ?_
      refine WL.done ?_
      refine W.seq ?_
      refine W.seq ?_
      refine W.region ?_
      refine WL.move rfl rfl ?_
      refine WL.eqlPn Try.underlying26 rfl rfl rfl rfl ?_
      refine WL.move rfl rfl ?_
      refine WL.pass rfl rfl rfl ?_
      refine WL.pass rfl rfl rfl ?_
      refine WL.pass rfl rfl rfl ?_
      refine WL.pass rfl rfl rfl ?_
      refine WL.pass rfl rfl rfl ?_
      refine WL.pick rfl rfl rfl ?_
      refine WL.done ?_
      refine W.condT rfl ?_
      refine W.seq ?_
      refine W.region ?_
      refine WL.assign rfl rfl ?_
      refine WL.done ?_
      refine W.ret ?_
      refine ⟨_, rfl, Fin.nil ?_⟩
      exact ⟨_, hS.ext, (hS.pick [] rfl).rows, News.of (hS.pick [] rfl).rows rfl, ⟨true, rfl, rfl, hv⟩⟩
    | some F19 =>
      obtain ⟨ad20, lo21, hi22, rfl, rfl⟩ := hK
      change St _ _ _ _ [.ch lo21 hi22 (fun wz => GFX lo21 hi22 wz ad20 F19), .row 24 3 (some ⟨g11, 0, none⟩) 1 1 [.int .i64 Pf, .int .i64 Mf, .slice Af mf.length kf]] at hS
      refine WL.assign rfl rfl ?_
      refine WL.done ?_
      refine W.seq ?_
      refine W.seq ?_
      refine W.region ?_
      refine WL.move rfl rfl ?_
      refine WL.eqlPn Try.underlying26 rfl rfl rfl rfl ?_
      refine WL.move rfl rfl ?_
      refine WL.take rfl ?_
      refine WL.move rfl rfl ?_
      refine WL.take rfl ?_
      refine WL.move rfl rfl ?_
      refine WL.take rfl ?_
      refine SL.lit1 (vs := [.slice Ap p.length kp, .slice At t.length kt]) hS Try.underlying37 Try.el22 rfl rfl rfl rfl (by simp [Value.oneCell']) rfl ?_
      intro A25 w26 hS
      refine WL.take rfl ?_
      refine SL.call hS (ok_short (ls := ([p, t] : List (List Int))) ⟨_, _, (hS.rd (i := 0) rfl), ⟨⟨_, _, _, rfl, (Rd.is_m (hS.ro hp))⟩, ⟨_, _, _, rfl, (Rd.is_m (hS.ro ht))⟩, trivial⟩⟩ hv) Try.func26 rfl Try.nm26 rfl rfl ?_
      rintro _ _ w28 ⟨r29, rfl, rfl, hv⟩ hGw28 hS
      change St _ _ _ _ [.row 22 1 A25 2 2 [.slice Ap p.length kp, .slice At t.length kt], .ch lo21 hi22 (fun wz => GFX lo21 hi22 wz ad20 F19), .row 24 3 (some ⟨g11, 0, none⟩) 1 1 [.int .i64 Pf, .int .i64 Mf, .slice Af mf.length kf]] at hS
      refine WL.take rfl ?_
      refine WL.not rfl rfl ?_
      refine WL.pick rfl rfl rfl ?_
      refine WL.done ?_
      refine W.cond2 rfl (fun c30 => ?_) (fun c30 => ?_)
      · have hv := hv.1 (c30)
        refine W.seq ?_
        refine W.region ?_
        refine WL.assign rfl rfl ?_
        refine WL.done ?_
        refine W.ret ?_
        refine ⟨_, rfl, Fin.nil ?_⟩
        exact ⟨_, hS.ext, (hS.pick [] rfl).rows, News.of (hS.pick [] rfl).rows rfl, ⟨true, rfl, rfl, hv⟩⟩
      · have hv := hv.2 (c30)
        refine W.skip ?_
        refine W.seq ?_
        refine W.region ?_
        refine WL.move rfl rfl ?_
        refine WL.move rfl rfl ?_
        refine SL.call hS (ok_deriv (GFX.gfr (hS.chunk (i := 1) rfl)) (hS.ro hp) hv) Try.func49 rfl Try.nm49 rfl rfl ?_
        rintro _ _ w31 ⟨x32, A33, k34, rfl, rfl, hv⟩ hGw31 hS
        change St _ _ _ _ [.row 3 1 A33 x32.length k34 (is x32), .row 22 1 A25 2 2 [.slice Ap p.length kp, .slice At t.length kt], .ch lo21 hi22 (fun wz => GFX lo21 hi22 wz ad20 F19), .row 24 3 (some ⟨g11, 0, none⟩) 1 1 [.int .i64 Pf, .int .i64 Mf, .slice Af mf.length kf]] at hS
        refine WL.move rfl rfl ?_
        refine WL.move rfl rfl ?_
        refine SL.call hS (ok_deriv (GFX.gfr (hS.chunk (i := 2) rfl)) (hS.ro ht) hv) Try.func49 rfl Try.nm49 rfl rfl ?_
        rintro _ _ w36 ⟨x37, A38, k39, rfl, rfl, hv⟩ hGw36 hS
        change St _ _ _ _ [.row 3 1 A38 x37.length k39 (is x37), .row 3 1 A33 x32.length k34 (is x32), .row 22 1 A25 2 2 [.slice Ap p.length kp, .slice At t.length kt], .ch lo21 hi22 (fun wz => GFX lo21 hi22 wz ad20 F19), .row 24 3 (some ⟨g11, 0, none⟩) 1 1 [.int .i64 Pf, .int .i64 Mf, .slice Af mf.length kf]] at hS
        refine WL.assign rfl rfl ?_
        refine WL.assign rfl rfl ?_
        refine WL.done ?_
        refine W.seq ?_
        refine W.seq ?_
        refine W.region ?_
        refine WL.move rfl rfl ?_
        refine WL.loadV (cs := [.int .i64 Pf, .int .i64 Mf, .slice Af mf.length kf]) Try.el24 Try.agg24 rfl rfl (Own.vcells (hS.own (i := 4) rfl)) rfl ?_
        refine WL.move rfl rfl ?_
        refine SL.call hS (ok_rderiv (hS.ro hf) (hS.ro hp) hv) Try.func50 rfl Try.nm50 rfl rfl ?_
        rintro _ _ w41 ⟨x42, A43, k44, rfl, rfl, hv⟩ hGw41 hS
        change St _ _ _ _ [.row 3 1 A43 x42.length k44 (is x42), .row 3 1 A38 x37.length k39 (is x37), .row 3 1 A33 x32.length k34 (is x32), .row 22 1 A25 2 2 [.slice Ap p.length kp, .slice At t.length kt], .ch lo21 hi22 (fun wz => GFX lo21 hi22 wz ad20 F19), .row 24 3 (some ⟨g11, 0, none⟩) 1 1 [.int .i64 Pf, .int .i64 Mf, .slice Af mf.length kf]] at hS
        refine SL.call hS (ok_lsame (hS.rd (i := 2) rfl) (hS.rd (i := 0) rfl) hv) Try.func23 rfl Try.nm23 rfl rfl ?_
        rintro _ _ w46 ⟨r47, rfl, rfl, hv⟩ hGw46 hS
        change St _ _ _ _ [.row 3 1 A43 x42.length k44 (is x42), .row 3 1 A38 x37.length k39 (is x37), .row 3 1 A33 x32.length k34 (is x32), .row 22 1 A25 2 2 [.slice Ap p.length kp, .slice At t.length kt], .ch lo21 hi22 (fun wz => GFX lo21 hi22 wz ad20 F19), .row 24 3 (some ⟨g11, 0, none⟩) 1 1 [.int .i64 Pf, .int .i64 Mf, .slice Af mf.length kf]] at hS
        refine WL.not rfl rfl ?_
        refine WL.move rfl rfl ?_
        rcases g48 : (!r47) with _ | _
        · have hv := hv.2 g48
          refine WL.take rfl ?_
          refine WL.move rfl rfl ?_
          refine WL.take rfl ?_
          refine WL.loadV (cs := [.int .i64 Pf, .int .i64 Mf, .slice Af mf.length kf]) Try.el24 Try.agg24 rfl rfl (Own.vcells (hS.own (i := 5) rfl)) rfl ?_
          refine WL.take rfl ?_
          refine WL.move rfl rfl ?_
          refine WL.take rfl ?_
          refine SL.call hS (ok_rderiv (hS.ro hf) (hS.ro ht) hv) Try.func50 rfl Try.nm50 rfl rfl ?_
          rintro _ _ w49 ⟨x50, A51, k52, rfl, rfl, hv⟩ hGw49 hS
          change St _ _ _ _ [.row 3 1 A51 x50.length k52 (is x50), .row 3 1 A43 x42.length k44 (is x42), .row 3 1 A38 x37.length k39 (is x37), .row 3 1 A33 x32.length k34 (is x32), .row 22 1 A25 2 2 [.slice Ap p.length kp, .slice At t.length kt], .ch lo21 hi22 (fun wz => GFX lo21 hi22 wz ad20 F19), .row 24 3 (some ⟨g11, 0, none⟩) 1 1 [.int .i64 Pf, .int .i64 Mf, .slice Af mf.length kf]] at hS
          refine WL.take rfl ?_
          refine SL.call hS (ok_lsame (hS.rd (i := 2) rfl) (hS.rd (i := 0) rfl) hv) Try.func23 rfl Try.nm23 rfl rfl ?_
          rintro _ _ w54 ⟨r55, rfl, rfl, hv⟩ hGw54 hS
          change St _ _ _ _ [.row 3 1 A51 x50.length k52 (is x50), .row 3 1 A43 x42.length k44 (is x42), .row 3 1 A38 x37.length k39 (is x37), .row 3 1 A33 x32.length k34 (is x32), .row 22 1 A25 2 2 [.slice Ap p.length kp, .slice At t.length kt], .ch lo21 hi22 (fun wz => GFX lo21 hi22 wz ad20 F19), .row 24 3 (some ⟨g11, 0, none⟩) 1 1 [.int .i64 Pf, .int .i64 Mf, .slice Af mf.length kf]] at hS
          refine WL.take rfl ?_
          refine WL.not rfl rfl ?_
          refine WL.pick rfl rfl rfl ?_
          refine WL.done ?_
          refine W.cond2 rfl (fun c56 => ?_) (fun c56 => ?_)
          · have hv := hv.1 (c56)
            refine W.seq ?_
            refine W.region ?_
            refine WL.assign rfl rfl ?_
            refine WL.done ?_
            refine W.ret ?_
            refine ⟨_, rfl, Fin.nil ?_⟩
            exact ⟨_, hS.ext, (hS.pick [] rfl).rows, News.of (hS.pick [] rfl).rows rfl, ⟨false, rfl, rfl, hv⟩⟩
          · have hv := hv.2 (c56)
            refine W.skip ?_
            refine W.seq ?_
            refine W.region ?_
            refine WL.move rfl rfl ?_
            refine WL.move rfl rfl ?_
            refine WL.move rfl rfl ?_
            refine WL.move rfl rfl ?_
            refine SL.lit1 (vs := [.slice Ap p.length kp, .slice At t.length kt]) hS Try.underlying37 Try.el22 rfl rfl rfl rfl (by simp [Value.oneCell']) rfl ?_
            intro A57 w58 hS
            refine SL.call hS (ok_pmul (GFX.gfr (hS.chunk (i := 6) rfl)) (fs := ([p, t] : List (List Int))) ⟨_, _, (hS.rd (i := 0) rfl), ⟨⟨_, _, _, rfl, (Rd.is_m (hS.ro hp))⟩, ⟨_, _, _, rfl, (Rd.is_m (hS.ro ht))⟩, trivial⟩⟩ hv) Try.func32 rfl Try.nm32 rfl rfl ?_
            rintro _ _ w60 ⟨x61, A62, k63, rfl, rfl, hv⟩ hGw60 hS
            change St _ _ _ _ [.row 3 1 A62 x61.length k63 (is x61), .row 22 1 A57 2 2 [.slice Ap p.length kp, .slice At t.length kt], .row 3 1 A51 x50.length k52 (is x50), .row 3 1 A43 x42.length k44 (is x42), .row 3 1 A38 x37.length k39 (is x37), .row 3 1 A33 x32.length k34 (is x32), .row 22 1 A25 2 2 [.slice Ap p.length kp, .slice At t.length kt], .ch lo21 hi22 (fun wz => GFX lo21 hi22 wz ad20 F19), .row 24 3 (some ⟨g11, 0, none⟩) 1 1 [.int .i64 Pf, .int .i64 Mf, .slice Af mf.length kf]] at hS
            refine SL.call hS (ok_deriv (GFX.gfr (hS.chunk (i := 7) rfl)) (hS.rd (i := 0) rfl) hv) Try.func49 rfl Try.nm49 rfl rfl ?_
            rintro _ _ w65 ⟨x66, A67, k68, rfl, rfl, hv⟩ hGw65 hS
            change St _ _ _ _ [.row 3 1 A67 x66.length k68 (is x66), .row 3 1 A62 x61.length k63 (is x61), .row 22 1 A57 2 2 [.slice Ap p.length kp, .slice At t.length kt], .row 3 1 A51 x50.length k52 (is x50), .row 3 1 A43 x42.length k44 (is x42), .row 3 1 A38 x37.length k39 (is x37), .row 3 1 A33 x32.length k34 (is x32), .row 22 1 A25 2 2 [.slice Ap p.length kp, .slice At t.length kt], .ch lo21 hi22 (fun wz => GFX lo21 hi22 wz ad20 F19), .row 24 3 (some ⟨g11, 0, none⟩) 1 1 [.int .i64 Pf, .int .i64 Mf, .slice Af mf.length kf]] at hS
            refine WL.move rfl rfl ?_
            refine WL.move rfl rfl ?_
            refine WL.move rfl rfl ?_
            refine WL.move rfl rfl ?_
            refine SL.lit1 (vs := [.slice A33 x32.length k34, .slice At t.length kt]) hS Try.underlying37 Try.el22 rfl rfl rfl rfl (by simp [Value.oneCell']) rfl ?_
            intro A70 w71 hS
            refine SL.call hS (ok_pmul (GFX.gfr (hS.chunk (i := 9) rfl)) (fs := ([x32, t] : List (List Int))) ⟨_, _, (hS.rd (i := 0) rfl), ⟨⟨_, _, _, rfl, (Rd.is_m (hS.rd (i := 7) rfl))⟩, ⟨_, _, _, rfl, (Rd.is_m (hS.ro ht))⟩, trivial⟩⟩ hv) Try.func32 rfl Try.nm32 rfl rfl ?_
            rintro _ _ w73 ⟨x74, A75, k76, rfl, rfl, hv⟩ hGw73 hS
            change St _ _ _ _ [.row 3 1 A75 x74.length k76 (is x74), .row 22 1 A70 2 2 [.slice A33 x32.length k34, .slice At t.length kt], .row 3 1 A67 x66.length k68 (is x66), .row 3 1 A62 x61.length k63 (is x61), .row 22 1 A57 2 2 [.slice Ap p.length kp, .slice At t.length kt], .row 3 1 A51 x50.length k52 (is x50), .row 3 1 A43 x42.length k44 (is x42), .row 3 1 A38 x37.length k39 (is x37), .row 3 1 A33 x32.length k34 (is x32), .row 22 1 A25 2 2 [.slice Ap p.length kp, .slice At t.length kt], .ch lo21 hi22 (fun wz => GFX lo21 hi22 wz ad20 F19), .row 24 3 (some ⟨g11, 0, none⟩) 1 1 [.int .i64 Pf, .int .i64 Mf, .slice Af mf.length kf]] at hS
            refine WL.move rfl rfl ?_
            refine WL.move rfl rfl ?_
            refine WL.move rfl rfl ?_
            refine SL.lit1 (vs := [.slice Ap p.length kp, .slice A38 x37.length k39]) hS Try.underlying37 Try.el22 rfl rfl rfl rfl (by simp [Value.oneCell']) rfl ?_
            intro A78 w79 hS
            refine SL.call hS (ok_pmul (GFX.gfr (hS.chunk (i := 11) rfl)) (fs := ([p, x37] : List (List Int))) ⟨_, _, (hS.rd (i := 0) rfl), ⟨⟨_, _, _, rfl, (Rd.is_m (hS.ro hp))⟩, ⟨_, _, _, rfl, (Rd.is_m (hS.rd (i := 8) rfl))⟩, trivial⟩⟩ hv) Try.func32 rfl Try.nm32 rfl rfl ?_
            rintro _ _ w81 ⟨x82, A83, k84, rfl, rfl, hv⟩ hGw81 hS
            change St _ _ _ _ [.row 3 1 A83 x82.length k84 (is x82), .row 22 1 A78 2 2 [.slice Ap p.length kp, .slice A38 x37.length k39], .row 3 1 A75 x74.length k76 (is x74), .row 22 1 A70 2 2 [.slice A33 x32.length k34, .slice At t.length kt], .row 3 1 A67 x66.length k68 (is x66), .row 3 1 A62 x61.length k63 (is x61), .row 22 1 A57 2 2 [.slice Ap p.length kp, .slice At t.length kt], .row 3 1 A51 x50.length k52 (is x50), .row 3 1 A43 x42.length k44 (is x42), .row 3 1 A38 x37.length k39 (is x37), .row 3 1 A33 x32.length k34 (is x32), .row 22 1 A25 2 2 [.slice Ap p.length kp, .slice At t.length kt], .ch lo21 hi22 (fun wz => GFX lo21 hi22 wz ad20 F19), .row 24 3 (some ⟨g11, 0, none⟩) 1 1 [.int .i64 Pf, .int .i64 Mf, .slice Af mf.length kf]] at hS
            refine SL.call hS (ok_padd (GFX.gfr (hS.chunk (i := 12) rfl)) (hS.rd (i := 2) rfl) (hS.rd (i := 0) rfl) hv) Try.func27 rfl Try.nm27 rfl rfl ?_
            rintro _ _ w86 ⟨x87, A88, k89, rfl, rfl, hv⟩ hGw86 hS
            change St _ _ _ _ [.row 3 1 A88 x87.length k89 (is x87), .row 3 1 A83 x82.length k84 (is x82), .row 22 1 A78 2 2 [.slice Ap p.length kp, .slice A38 x37.length k39], .row 3 1 A75 x74.length k76 (is x74), .row 22 1 A70 2 2 [.slice A33 x32.length k34, .slice At t.length kt], .row 3 1 A67 x66.length k68 (is x66), .row 3 1 A62 x61.length k63 (is x61), .row 22 1 A57 2 2 [.slice Ap p.length kp, .slice At t.length kt], .row 3 1 A51 x50.length k52 (is x50), .row 3 1 A43 x42.length k44 (is x42), .row 3 1 A38 x37.length k39 (is x37), .row 3 1 A33 x32.length k34 (is x32), .row 22 1 A25 2 2 [.slice Ap p.length kp, .slice At t.length kt], .ch lo21 hi22 (fun wz => GFX lo21 hi22 wz ad20 F19), .row 24 3 (some ⟨g11, 0, none⟩) 1 1 [.int .i64 Pf, .int .i64 Mf, .slice Af mf.length kf]] at hS
            refine SL.call hS (ok_lsame (hS.rd (i := 5) rfl) (hS.rd (i := 0) rfl) hv) Try.func23 rfl Try.nm23 rfl rfl ?_
            rintro _ _ w91 ⟨r92, rfl, rfl, hv⟩ hGw91 hS
            change St _ _ _ _ [.row 3 1 A88 x87.length k89 (is x87), .row 3 1 A83 x82.length k84 (is x82), .row 22 1 A78 2 2 [.slice Ap p.length kp, .slice A38 x37.length k39], .row 3 1 A75 x74.length k76 (is x74), .row 22 1 A70 2 2 [.slice A33 x32.length k34, .slice At t.length kt], .row 3 1 A67 x66.length k68 (is x66), .row 3 1 A62 x61.length k63 (is x61), .row 22 1 A57 2 2 [.slice Ap p.length kp, .slice At t.length kt], .row 3 1 A51 x50.length k52 (is x50), .row 3 1 A43 x42.length k44 (is x42), .row 3 1 A38 x37.length k39 (is x37), .row 3 1 A33 x32.length k34 (is x32), .row 22 1 A25 2 2 [.slice Ap p.length kp, .slice At t.length kt], .ch lo21 hi22 (fun wz => GFX lo21 hi22 wz ad20 F19), .row 24 3 (some ⟨g11, 0, none⟩) 1 1 [.int .i64 Pf, .int .i64 Mf, .slice Af mf.length kf]] at hS
            refine WL.assign rfl rfl ?_
            refine WL.done ?_
            refine W.ret ?_
            refine ⟨_, rfl, Fin.nil ?_⟩
            exact ⟨_, hS.ext, (hS.pick [] rfl).rows, News.of (hS.pick [] rfl).rows rfl, ⟨r92, rfl, rfl, hv⟩⟩
        · have hv := hv.1 g48
          refine WL.pass rfl rfl rfl ?_
          refine WL.pass rfl rfl rfl ?_
          refine WL.pass rfl rfl rfl ?_
          refine WL.pass rfl rfl rfl ?_
          refine WL.pass rfl rfl rfl ?_
          refine WL.pass rfl rfl rfl ?_
          refine WL.pick rfl rfl rfl ?_
          refine WL.done ?_
          refine W.condT rfl ?_
          refine W.seq ?_
          refine W.region ?_
          refine WL.assign rfl rfl ?_
          refine WL.done ?_
          refine W.ret ?_
          refine ⟨_, rfl, Fin.nil ?_⟩
          exact ⟨_, hS.ext, (hS.pick [] rfl).rows, News.of (hS.pick [] rfl).rows rfl, ⟨false, rfl, rfl, hv⟩⟩

end Go.Proofs.Ytmdigamgojfjdaa
set_option linter.unusedVariables false
set_option linter.unusedSimpArgs false
namespace Go.Proofs.Ytmdigamgojfjdaa
open Ks
/-! ### derivatives, interpolation -/
section
variable {k : Ks} {F : GFv} {P M : Int} {mf : List Int}
theorem nt1 : ∀ j : Nat, (nt (1 : k.E) j).1 = j % k.p
  | 0 => (Nat.zero_mod _).symm
  | j + 1 => by
    show fadd k.p k.m (nt (1 : k.E) j).1 1 = _
    have hp := k.p2
    rw [← succ_fadd hp k.m0 (nt (1 : k.E) j).2, nt1 j, Nat.mod_mod]
    have hlt := Nat.mod_lt j (show 0 < k.p by omega)
    have hd := Nat.div_add_mod j k.p
    by_cases h : j % k.p = k.p - 1
    · rw [if_pos h, Nat.sub_self]
      have h' : j % k.p + 1 = k.p := by omega
      have : j + 1 = k.p * (j / k.p + 1) := by rw [Nat.mul_add, Nat.mul_one]; omega
      rw [this, Nat.mul_mod_right]
    · rw [if_neg h]
      have : j + 1 = (j % k.p + 1) + k.p * (j / k.p) := by omega
      rw [this, Nat.add_mul_mod_self_left, Nat.mod_eq_of_lt (show j % k.p + 1 < k.p by omega)]
theorem el_mod (j : Nat) : k.el ((j % k.p : Nat) : Int) = nt 1 j := by
  rw [← nt1 (k := k) j]
  exact el_co (nt 1 j)
theorem nt_el (y : k.E) (j : Nat) : nt y j = k.el ((j % k.p : Nat) : Int) * y := by
  rw [el_mod, ← nt_mul, Cr.one_mul]
theorem w_field {Q : Int × Int × List Int → Prop} (K : GFk F k.p k.m k.v k.g) (h : Q ((k.p : Int), F.M, F.mod)) : V_field F Q := by
  unfold V_field V_cloneF
  have hl : F.mod.length ≤ 1000000 := by
    have h8 := K.fv.m8
    by_cases hm1 : k.m = 1
    · rw [(K.fv.m1 hm1).1]; simp
    · rw [K.fv.m2 hm1, dgi_len]; omega
  refine v_clone hl ?_
  rw [K.fv.eP]; exact h
theorem w_deriv {p : List Int} {Q : List Int → Prop} (K : GFk F k.p k.m k.v k.g) (hp : p.length ≤ 100000) (h : Q (k.L (dr (k.pol p)))) : V_deriv F p Q := by
  refine w_field K ?_
  dsimp only
  have hp2 := k.p2
  obtain ⟨n, hn, hnl⟩ : ∃ n : Nat, max (0 : Int) (((p.length : Nat) : Int) - 1) = n ∧ n = p.length - 1 := ⟨p.length - 1, by omega, rfl⟩
  rw [hn, Int.toNat_natCast]
  refine ⟨small (by omega) (by omega), ⟨by omega, by omega, by omega⟩, Fill (fun i => k.co (dr (k.pol p) i)) n, fun x z => (n - z).toNat, Fill.start _ n, ?_⟩
  rintro x _ ⟨j, rfl, hj, hl, hv⟩
  dsimp only
  refine ⟨fun hz => ⟨small (by omega) (by omega), by omega, small (by omega) (by omega), ⟨by omega, by omega⟩, _, w_Mul K rfl, ⟨by omega, by omega⟩, small (by omega) (by omega), Fill.step ⟨j, rfl, hj, hl, hv⟩ (by omega) ?_, by omega⟩, fun hz => ?_⟩
  · congr 1
    show _ = nt (k.pol p (j + 1)) (j + 1)
    rw [show (j : Int) + 1 = ((j + 1 : Nat) : Int) by push_cast; rfl, tmodN, gi_nat, nt_el]; rfl
  · obtain ⟨he, hpol⟩ := fill_pol (k := k) (f := dr (k.pol p)) hl (fun i hi => hv i (by omega)) (by rw [hnl]; exact dr_su (pol_su p))
    refine w_trim K (by omega) he fun i h1 h2 h3 => ⟨⟨h1, by omega⟩, ?_⟩
    rw [h3, hpol]; exact h
end
end Go.Proofs.Ytmdigamgojfjdaa
set_option linter.unusedVariables false
set_option linter.unusedSimpArgs false
namespace Go.Proofs.Ytmdigamgojfjdaa
open Ks
/-! ### the reference's quotients, values; what the laws ask first -/
section
variable {k : Ks} {F : GFv} {P M : Int} {mf : List Int}
theorem w_rtimes {n : Nat} {x : Int} {Q : Int → Prop} (hF : FV P M mf k.p k.m k.v) (h : Q (k.co (nt (k.el x) n))) : V_rtimes P M mf n x Q := by
  have hp := k.p2
  have hP := hF.eP
  have hp256 := hF.p256
  have h : Q (k.co (nt (k.el x) (n % k.p))) := by
    have e : nt (k.el x) n = nt (k.el x) (n % k.p) := by rw [nt_el, nt_el (k.el x) (n % k.p), Nat.mod_mod]
    rwa [← e]
  have hlt := Nat.mod_lt n (show 0 < k.p by omega)
  refine ⟨fun a z => ∃ j : Nat, z = j ∧ j ≤ n % k.p ∧ a = k.co (nt (k.el x) j), fun a z => (300 - z).toNat, ⟨0, rfl, Nat.zero_le _, rfl⟩, ?_⟩
  rintro _ _ ⟨j, rfl, hj, rfl⟩
  dsimp only
  have ht : ((n : Nat) : Int).tmod P = ((n % k.p : Nat) : Int) := by rw [hP, tmodN]
  rw [ht]
  refine ⟨by omega, fun hz => w_rAdd hF ⟨small (by omega) (by omega), ⟨j + 1, by push_cast; rfl, by omega, ?_⟩, by omega⟩, fun hz => ?_⟩
  · rw [el_co]; rfl
  · rw [show j = n % k.p by omega]; exact h
theorem w_rderiv {p : List Int} {Q : List Int → Prop} (hF : FV P M mf k.p k.m k.v) (hp : p.length ≤ 100000) (h : Q (k.L (dr (k.pol p)))) : V_rderiv P M mf p Q := by
  refine ⟨fun h0 => ?_, fun h0 => ?_⟩
  · have : dr (k.pol p) = 0 := (show Su (dr (k.pol p)) 0 by have := dr_su (pol_su (k := k) p); rwa [show p.length - 1 = 0 by omega] at this).eq0
    rw [this, L_zero] at h; exact h
  · obtain ⟨n, hn⟩ : ∃ n, p.length = n + 1 := ⟨p.length - 1, by omega⟩
    rw [hn, show (((n + 1 : Nat) : Int) - 1) = (n : Int) by omega, Int.toNat_natCast]
    refine ⟨small (by omega) (by omega), ⟨by omega, by omega, by omega⟩, Fill (fun i => k.co (dr (k.pol p) i)) n, fun x z => (n - z).toNat, Fill.start _ n, ?_⟩
    rintro x _ ⟨j, rfl, hj, hl, hv⟩
    dsimp only
    refine ⟨fun hz => ⟨small (by omega) (by omega), small (by omega) (by omega), ⟨by omega, by omega⟩, _, ?_, ⟨by omega, by omega⟩, small (by omega) (by omega), Fill.step ⟨j, rfl, hj, hl, hv⟩ (by omega) rfl, by omega⟩, fun hz => ?_⟩
    · rw [show (j : Int) + 1 = ((j + 1 : Nat) : Int) by push_cast; rfl]
      exact w_rtimes hF rfl
    · obtain ⟨he, hpol⟩ := fill_pol (k := k) (f := dr (k.pol p)) hl (fun i hi => hv i (by omega)) (by have := dr_su (pol_su (k := k) p); rwa [hn, Nat.add_sub_cancel] at this)
      refine w_rcanon hF (by omega) ?_
      rw [hpol]; exact h
end
end Go.Proofs.Ytmdigamgojfjdaa
set_option linter.unusedVariables false
set_option linter.unusedSimpArgs false
namespace Go.Proofs.Ytmdigamgojfjdaa
open Ks
section
variable {k : Ks} {F : GFv} {P M : Int} {mf : List Int}
theorem law_PolyDerives (p t : List Int) : V_PolyDerives P M mf p t (fun b => b = true) := by
  refine w_alive ⟨fun h => absurd h (by decide), fun _ => w_made (fun _ => rfl) fun F k K hF => w_short2 rfl fun hp ht => ?_⟩
  have s1 := dr_su (pol_su (k := k) p)
  have s2 := dr_su (pol_su (k := k) t)
  have l1 := L_len (k := k) s1
  have l2 := L_len (k := k) s2
  have l3 := L_len (k := k) ((pol_su (k := k) p).mul (pol_su t))
  have f1 : Fs (dr (k.pol p)) := ⟨_, s1⟩
  have f2 : Fs (dr (k.pol t)) := ⟨_, s2⟩
  have l4 := L_len (k := k) (s1.mul (pol_su t))
  have l5 := L_len (k := k) ((pol_su p).mul s2)
  have s6 := dr_su (((pol_su (k := k) p).mul (pol_su t)))
  have l6 := L_len (k := k) s6
  refine w_deriv K (by omega) (w_deriv K (by omega) (w_rderiv hF (by omega) (w_same (by omega) rfl (nb (w_rderiv hF (by omega) (w_same (by omega) rfl (nb (w_pmul2 K (by omega) (by omega) (w_deriv K (by omega) (w_pmul2 K (by omega) (by omega) (w_pmul2 K (by omega) (by omega) (w_padd K ?_ ?_ (w_same ?_ ?_ rfl))))))))))))) 
  · rw [pol_L f1]; omega
  · rw [pol_L f2]; omega
  · rw [pol_L ((pol_fs p).mul (pol_fs t))]; omega
  · rw [pol_L ((pol_fs p).mul (pol_fs t)), pol_L f1, pol_L f2, pol_L (f1.mul (pol_fs t)), pol_L ((pol_fs p).mul f2), dr_mul]
end
end Go.Proofs.Ytmdigamgojfjdaa
