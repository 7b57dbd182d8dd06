/- What only this law leans on. -/
import Derived.Test.YtmdigamgojfjdaaPolyMonicG11
namespace Go.Proofs.Ytmdigamgojfjdaa
open Go.RowKit

section
variable {P : Program} {n : Nat} {ro : Option Nat} {df : List Deferred} {N : Post} {L : Fr} {w : World} {ops : Array Oper} {rest : List Oper}
variable {d : Nat} {ty : TypeId} {pos : String} {af : Array Edge}

theorem WL.shr {x y : Operand} {k ky : IntKind} {a b r : Int} {tx tb : TypeId} (hx : ev L x = some (.int k a)) (hy : ev L y = some (.int ky b)) (h0 : 0 ≤ b) (hr : a.fdiv (2 ^ min b.toNat k.bits) = r) (hn : Nat.blt d n = true) (h : WL P n ro df ops rest N ((d, .int k r) :: L) w) :
    WL P n ro df ops (⟨some d, .binOp .shr tx x y tb, ty, pos, af, none⟩ :: rest) N L w :=
  WL.val rfl rfl hn (fun a ha => by simp [execOp, eqGuard, binOp, Op.shift, ha.ev hx, ha.ev hy, hr, show ¬ b < 0 by omega]) h
end
end Go.Proofs.Ytmdigamgojfjdaa
namespace Go.Proofs.Ytmdigamgojfjdaa
open Go.RowKit
theorem wu64 {n r : Int} (lo : 0 ≤ n) (hi : n < 18446744073709551616) (h : n = r) : IntKind.u64.wrap n = r := by
  simp [IntKind.wrap, IntKind.bits, IntKind.signed]; omega
theorem wu8 {n r : Int} (lo : 0 ≤ n) (hi : n < 256) (h : n = r) : IntKind.u8.wrap n = r := by
  simp [IntKind.wrap, IntKind.bits, IntKind.signed]; omega
/-- A shift to the right is a division, one to the left a multiplication. -/
theorem shr_nat {x y : Int} {a s : Nat} (hx : x = a) (hy : y = s) (m : Nat) (hs : s ≤ m) : x.fdiv (2 ^ min y.toNat m) = ((a / 2 ^ s : Nat) : Int) := by
  subst hx; subst hy
  rw [Int.toNat_natCast, Nat.min_eq_left hs, Int.fdiv_eq_ediv_of_nonneg _ (Int.pow_nonneg (by decide))]
  simp
section
variable {P : Program} {n : Nat} {ro : Option Nat} {df : List Deferred} {N : Post} {L : Fr} {w : World} {ops : Array Oper} {rest : List Oper}
variable {d : Nat} {ty : TypeId} {pos : String} {af : Array Edge}
end
section
variable {P : Program} {n : Nat} {ro : Option Nat} {df : List Deferred} {N : Post} {L : Fr} {w : World} {ops : Array Oper} {rest : List Oper}
variable {d : Nat} {ty : TypeId} {pos : String} {af : Array Edge}
end
end Go.Proofs.Ytmdigamgojfjdaa
set_option linter.unusedVariables false
namespace Go.Proofs.Ytmdigamgojfjdaa
open Go.RowKit
theorem Try.nm41 : (Try.f41.name == "runtime.NumGoroutine") = false := by kernel_rfl
theorem Try.nm53 : (Try.f53.name == "runtime.NumGoroutine") = false := by kernel_rfl
theorem Try.nm54 : (Try.f54.name == "runtime.NumGoroutine") = false := by kernel_rfl
theorem Try.nm84 : (Try.f84.name == "runtime.NumGoroutine") = false := by kernel_rfl
theorem Try.nm103 : (Try.f103.name == "runtime.NumGoroutine") = false := by kernel_rfl
end Go.Proofs.Ytmdigamgojfjdaa
set_option linter.unusedVariables false
set_option linter.unusedSimpArgs false
set_option linter.unusedSectionVars false
namespace Go.Proofs.Ytmdigamgojfjdaa
section
variable {α : Type} [Cr α]
theorem Dv.mul_self (f : Pl α) {a : Pl α} (ha : Fs a) : Dv f (a * f) := ⟨a, ha, Cr.mul_comm _ _⟩
theorem Cg.of_rem {m a f r : Pl α} (ha : Fs a) (e : f = a * m + r) : Cg m f r := by
  unfold Cg; rw [e, Cr.add_sub]; exact Dv.mul_self m ha
theorem pwr_one (x : α) : pwr x 1 = x := Cr.one_mul x
end
section
variable {α : Type} [Cr α] [Fd α]
theorem rm_cg {f g : Pl α} {d : Nat} (hf : Fs f) (hg : Dg g d) : Cg g f (rm f g) := by
  obtain ⟨n, hn⟩ := hf
  obtain ⟨h1, h2, _⟩ := qt_spec hn hg
  exact Cg.of_rem ⟨_, h1⟩ h2
theorem rm_of_cg {f g r : Pl α} {d : Nat} (hg : Dg g d) (h : Cg g f r) (hr : Su r d) : rm f g = r := by
  obtain ⟨a, ha, e⟩ := h
  exact (qt_uniq hg ha (by rw [Cr.mul_comm, ← e, Cr.sub_add]) hr).2
end
end Go.Proofs.Ytmdigamgojfjdaa
set_option linter.unusedSimpArgs false
set_option linter.unusedVariables false
namespace Go.Proofs.Ytmdigamgojfjdaa
open Go.RowKit
def V_rrem (Pf : Int) (Mf : Int) (mf : List Int) (p : List Int) (t : List Int) (Q : List Int → Prop) : Prop :=
  V_rdivmod Pf Mf mf p t (fun q => match q with | (x14, x18) => Q x18)
theorem ok_rrem {w : World} {Q : List Int → Prop} {Pf : Int} {Mf : Int} {mf : List Int} {p : List Int} {t : List Int} {Bf : Nat} {Af : Option Addr} {nf kf : Nat} (hf : Rd Bf w 1 Af nf kf (is mf)) {Bp : Nat} {Ap : Option Addr} {np kp : Nat} (hp : Rd Bp w 1 Ap np kp (is p)) {Bt : Nat} {At : Option Addr} {nt kt : Nat} (ht : Rd Bt w 1 At nt kt (is t)) (hv : V_rrem Pf Mf mf p t Q) :
    Calls Try.prog 41 #[.agg #[.int .i64 Pf, .int .i64 Mf, .slice Af nf kf], .slice Ap np kp, .slice At nt kt] w fun e w' => ∃ v Qr, e = .returned v ∧ w.grownBy w' none ∧ Rows w.heap.size none w' Qr ∧ News w.heap.size Qr ∧ ∃ (r0 : List Int) (Ar0 : Option Addr) (cr0 : Nat), v = .slice Ar0 r0.length cr0 ∧ Qr = [.row 3 1 Ar0 r0.length cr0 (is r0)] ∧ Q r0 := by
  have hnf := hf.ilen
  subst hnf
  have hnp := hp.ilen
  subst hnp
  have hnt := ht.ilen
  subst hnt
  refine calls_swap ?_
  refine calls_of_W (vs := [.agg #[.int .i64 Pf, .int .i64 Mf, .slice Af mf.length kf], .slice Ap p.length kp, .slice At t.length kt]) [6] Try.func41 rfl rfl rfl rfl ?_
  have hS := St.start w
  unfold V_rrem at hv
  refine W.seq ?_
  refine W.region ?_
  refine SL.box (z := 3) (cs := [.int .i64 Pf, .int .i64 Mf, .slice Af mf.length kf]) hS rfl rfl rfl rfl ?_
  intro g11 w12 hS
  refine WL.assign rfl rfl ?_
  refine WL.done ?_
  refine W.seq ?_
  refine W.region ?_
  refine WL.loadV (cs := [.int .i64 Pf, .int .i64 Mf, .slice Af mf.length kf]) Try.el24 Try.agg24 rfl rfl (Own.vcells (hS.own (i := 0) rfl)) rfl ?_
  refine WL.move rfl rfl ?_
  refine WL.move rfl rfl ?_
  refine SL.call hS (ok_rdivmod (hS.ro hf) (hS.ro hp) (hS.ro ht) hv) Try.func78 rfl Try.nm78 rfl rfl ?_
  rintro _ _ w13 ⟨x14, x18, A15, k16, A19, k20, rfl, rfl, hv⟩ hGw13 hS
  change St _ _ _ _ [.row 3 1 A15 x14.length k16 (is x14), .row 3 1 A19 x18.length k20 (is x18), .row 24 3 (some ⟨g11, 0, none⟩) 1 1 [.int .i64 Pf, .int .i64 Mf, .slice Af mf.length kf]] at hS
  refine WL.move rfl rfl ?_
  refine WL.extract rfl rfl rfl ?_
  refine WL.extract rfl rfl rfl ?_
  refine WL.assign rfl rfl ?_
  refine WL.assign rfl rfl ?_
  refine WL.done ?_
  refine W.seq ?_
  refine W.region ?_
  refine WL.move rfl rfl ?_
  refine WL.assign rfl rfl ?_
  refine WL.done ?_
  refine W.ret ?_
  refine ⟨_, rfl, Fin.nil ?_⟩
  exact ⟨_, hS.ext, (hS.pick [1] rfl).rows, News.of (hS.pick [1] rfl).rows rfl, ⟨x18, A19, k20, rfl, rfl, hv⟩⟩

def V_rpowmod (Pf : Int) (Mf : Int) (mf : List Int) (p : List Int) (n : Int) (t : List Int) (Q : List Int → Prop) : Prop :=
  V_rrem Pf Mf mf ([(1 : Int)] : List Int) t (fun x17 => V_rrem Pf Mf mf p t (fun x22 => ∃ (I53 : List Int → Int → List Int → Prop) (μ54 : List Int → Int → List Int → Nat), I53 x22 n x17 ∧ ∀ (x44 : List Int) (z48 : Int) (x49 : List Int), (I53 x44 z48 x49 → ((((0 : Int) < z48) → (∃ J61 : List Int → Prop, ((((z48.tmod (2 : Int)) = (1 : Int)) → (∃ (x68 : List Int), V_rpmul Pf Mf mf x49 x44 (fun q => q = x68) ∧ (∃ (x78 : List Int), V_rrem Pf Mf mf x68 t (fun q => q = x78) ∧ J61 x78))) ∧ (¬ ((z48.tmod (2 : Int)) = (1 : Int)) → J61 x49)) ∧ ∀ (x57 : List Int), (J61 x57 → (∃ (x95 : List Int), V_rpmul Pf Mf mf x44 x44 (fun q => q = x95) ∧ (∃ (x105 : List Int), V_rrem Pf Mf mf x95 t (fun q => q = x105) ∧ (((2 : Int) ≠ 0 ∧ I64 (z48.tdiv (2 : Int))) ∧ (I53 x105 (z48.tdiv (2 : Int)) x57 ∧ μ54 x105 (z48.tdiv (2 : Int)) x57 < μ54 x44 z48 x49))))))) ∧ (¬ ((0 : Int) < z48) → Q x49)))))
theorem ok_rpowmod {w : World} {Q : List Int → Prop} {Pf : Int} {Mf : Int} {mf : List Int} {p : List Int} {n : Int} {t : List Int} {Bf : Nat} {Af : Option Addr} {nf kf : Nat} (hf : Rd Bf w 1 Af nf kf (is mf)) {Bp : Nat} {Ap : Option Addr} {np kp : Nat} (hp : Rd Bp w 1 Ap np kp (is p)) {Bt : Nat} {At : Option Addr} {nt kt : Nat} (ht : Rd Bt w 1 At nt kt (is t)) (hv : V_rpowmod Pf Mf mf p n t Q) :
    Calls Try.prog 54 #[.agg #[.int .i64 Pf, .int .i64 Mf, .slice Af nf kf], .slice Ap np kp, .int .i64 n, .slice At nt kt] w fun e w' => ∃ v Qr, e = .returned v ∧ w.grownBy w' none ∧ Rows w.heap.size none w' Qr ∧ News w.heap.size Qr ∧ ∃ (r0 : List Int) (Ar0 : Option Addr) (cr0 : Nat), v = .slice Ar0 r0.length cr0 ∧ Qr = [.row 3 1 Ar0 r0.length cr0 (is r0)] ∧ Q r0 := by
  have hnf := hf.ilen
  subst hnf
  have hnp := hp.ilen
  subst hnp
  have hnt := ht.ilen
  subst hnt
  refine calls_swap ?_
  refine calls_of_W (vs := [.agg #[.int .i64 Pf, .int .i64 Mf, .slice Af mf.length kf], .slice Ap p.length kp, .int .i64 n, .slice At t.length kt]) [8] Try.func54 rfl rfl rfl rfl ?_
  have hS := St.start w
  unfold V_rpowmod at hv
  refine W.seq ?_
  refine W.region ?_
  refine SL.box (z := 3) (cs := [.int .i64 Pf, .int .i64 Mf, .slice Af mf.length kf]) hS rfl rfl rfl rfl ?_
  intro g11 w12 hS
  refine WL.assign rfl rfl ?_
  refine WL.done ?_
  refine W.seq ?_
  refine W.region ?_
  refine WL.loadV (cs := [.int .i64 Pf, .int .i64 Mf, .slice Af mf.length kf]) Try.el24 Try.agg24 rfl rfl (Own.vcells (hS.own (i := 0) rfl)) rfl ?_
  refine SL.lit1 (vs := is ([(1 : Int)] : List Int)) hS Try.underlying22 Try.el3 rfl rfl rfl rfl (is_one _) rfl ?_
  intro A13 w14 hS
  refine WL.move rfl rfl ?_
  refine SL.call hS (ok_rrem (hS.ro hf) (hS.rd (i := 0) rfl) (hS.ro ht) hv) Try.func41 rfl Try.nm41 rfl rfl ?_
  rintro _ _ w16 ⟨x17, A18, k19, rfl, rfl, hv⟩ hGw16 hS
  change St _ _ _ _ [.row 3 1 A18 x17.length k19 (is x17), .row 3 1 A13 1 1 (is ([(1 : Int)] : List Int)), .row 24 3 (some ⟨g11, 0, none⟩) 1 1 [.int .i64 Pf, .int .i64 Mf, .slice Af mf.length kf]] at hS
  refine WL.assign rfl rfl ?_
  refine WL.done ?_
  refine W.seq ?_
  refine W.region ?_
  refine WL.loadV (cs := [.int .i64 Pf, .int .i64 Mf, .slice Af mf.length kf]) Try.el24 Try.agg24 rfl rfl (Own.vcells (hS.own (i := 2) rfl)) rfl ?_
  refine WL.move rfl rfl ?_
  refine WL.move rfl rfl ?_
  refine SL.call hS (ok_rrem (hS.ro hf) (hS.ro hp) (hS.ro ht) hv) Try.func41 rfl Try.nm41 rfl rfl ?_
  rintro _ _ w21 ⟨x22, A23, k24, rfl, rfl, hv⟩ hGw21 hS
  change St _ _ _ _ [.row 3 1 A23 x22.length k24 (is x22), .row 3 1 A18 x17.length k19 (is x17), .row 3 1 A13 1 1 (is ([(1 : Int)] : List Int)), .row 24 3 (some ⟨g11, 0, none⟩) 1 1 [.int .i64 Pf, .int .i64 Mf, .slice Af mf.length kf]] at hS
  refine WL.assign rfl rfl ?_
  refine WL.done ?_
  refine W.seq ?_
  refine W.block ?_
  obtain ⟨I53, μ54, hv, hk118⟩ := hv
  change St _ _ _ _ [.row 3 1 A23 x22.length k24 (is x22), .row 3 1 A18 x17.length k19 (is x17), .row 3 1 A13 1 1 (is ([(1 : Int)] : List Int)), .row 24 3 (some ⟨g11, 0, none⟩) 1 1 [.int .i64 Pf, .int .i64 Mf, .slice Af mf.length kf]] at hS
  refine W.loop (σ := List Int × Int × List Int × Option Addr × Nat × Option Addr × Nat) (fun q w1 => match q with | (x44, z48, x49, A45, k46, A50, k51) => I53 x44 z48 x49 ∧ St TT w none w1 [.row 3 1 A45 x44.length k46 (is x44), .row 3 1 A50 x49.length k51 (is x49), .row 3 1 A13 1 1 (is ([(1 : Int)] : List Int)), .row 24 3 (some ⟨g11, 0, none⟩) 1 1 [.int .i64 Pf, .int .i64 Mf, .slice Af mf.length kf]]) (fun q => match q with | (x44, z48, x49, A45, k46, A50, k51) => [(1, .slice A45 x44.length k46), (2, .int .i64 z48), (3, .slice At t.length kt), (4, .pointer (some ⟨g11, 0, none⟩)), (8, .slice none 0 0), (9, .slice A50 x49.length k51)]) (fun q => match q with | (x44, z48, x49, A45, k46, A50, k51) => μ54 x44 z48 x49) (x22, n, x17, A23, k24, A18, k19) ⟨hv, hS⟩ ⟨rfl, rfl, rfl, rfl, rfl, rfl, trivial⟩ ?_
  rintro ⟨x44, z48, x49, A45, k46, A50, k51⟩ w55 ⟨hv, hS⟩
  have hv := hk118 x44 z48 x49 hv
  refine W.seq ?_
  refine W.seq ?_
  refine W.region ?_
  refine WL.move rfl rfl ?_
  refine WL.gtrD rfl rfl rfl ?_
  refine WL.done ?_
  refine W.cond2 rfl (fun c56 => ?_) (fun c56 => ?_)
  · have hv := hv.1 (of_decide_eq_true c56)
    refine W.skip ?_
    refine W.block ?_
    refine W.seq ?_
    refine W.seq ?_
    refine W.region ?_
    refine WL.move rfl rfl ?_
    refine WL.rem (r := (z48.tmod (2 : Int))) rfl rfl (by decide) rfl rfl ?_
    refine WL.eqlD rfl rfl rfl ?_
    refine WL.done ?_
    obtain ⟨J61, hv, hk117⟩ := hv
    refine W.cutN (σ := List Int × Option Addr × Nat) (fun q w1 => match q with | (x57, A58, k59) => J61 x57 ∧ St TT w none w1 [.row 3 1 A58 x57.length k59 (is x57), .row 3 1 A45 x44.length k46 (is x44), .row 3 1 A13 1 1 (is ([(1 : Int)] : List Int)), .row 24 3 (some ⟨g11, 0, none⟩) 1 1 [.int .i64 Pf, .int .i64 Mf, .slice Af mf.length kf]]) (fun q => match q with | (x57, A58, k59) => [(1, .slice A45 x44.length k46), (2, .int .i64 z48), (3, .slice At t.length kt), (4, .pointer (some ⟨g11, 0, none⟩)), (8, .slice none 0 0), (9, .slice A58 x57.length k59), (19, .bool (decide ((0 : Int) < z48))), (22, .bool (decide ((z48.tmod (2 : Int)) = (1 : Int))))]) ?_ ?_
    · refine W.cond2 rfl (fun c62 => ?_) (fun c62 => ?_)
      · have hv := hv.1 (of_decide_eq_true c62)
        obtain ⟨x68, o75, hv⟩ := hv
        obtain ⟨x78, o85, hv⟩ := hv
        have hS0 := hS
        refine W.drawX 8 (fun iA => [false, false, false, false, true, false, true, false].getD iA false) (fun iC => match iC with | 7 => some 6 | _ => none) [⟨[], [4], false⟩, ⟨[], [4], false⟩, ⟨[], [9], true⟩, ⟨[], [1], true⟩, ⟨[1, 2, 3], [], false⟩, ⟨[], [3], true⟩, ⟨[0, 4, 5], [], false⟩, ⟨[6], [], true⟩] [[(4, .pointer (some ⟨g11, 0, none⟩))], [(4, .pointer (some ⟨g11, 0, none⟩))], [(9, .slice A50 x49.length k51)], [(1, .slice A45 x44.length k46)], [], [(3, .slice At t.length kt)], [], []] (fun iQ => [fun v _ => v = .agg #[.int .i64 Pf, .int .i64 Mf, .slice Af mf.length kf], fun v _ => v = .agg #[.int .i64 Pf, .int .i64 Mf, .slice Af mf.length kf], fun v _ => v = .slice A50 x49.length k51, fun v _ => v = .slice A45 x44.length k46, fun v wQ => ∃ A69_4 k70_4, v = .slice A69_4 x68.length k70_4 ∧ Own 0 wQ 3 1 A69_4 x68.length k70_4 (is x68) ∧ (∀ g, bl A69_4 = some g → w55.heap.size ≤ g), fun v _ => v = .slice At t.length kt, fun v wQ => ∃ A79_6 k80_6, v = .slice A79_6 x78.length k80_6 ∧ Own 0 wQ 3 1 A79_6 x78.length k80_6 (is x78) ∧ (∀ g, bl A79_6 = some g → w55.heap.size ≤ g), fun v wQ => ∃ A79_6_7 k80_6_7, v = .slice A79_6_7 x78.length k80_6_7 ∧ Own 0 wQ 3 1 A79_6_7 x78.length k80_6_7 (is x78) ∧ (∀ g, bl A79_6_7 = some g → w55.heap.size ≤ g)].getD iQ (fun _ _ => True)) Try.mixed (by kernel_rfl) ?_ (by kernel_rfl) ?_ ?_
        · refine Vs_monoT _ ?_
          intro VQ hVQ vQ wQ1 wQ2 hQ1 hQ2
          simp only [List.mem_cons, List.not_mem_nil, or_false] at hVQ
          rcases hVQ with rfl | rfl | rfl | rfl | rfl | rfl | rfl | rfl
          · exact hQ1
          · exact hQ1
          · exact hQ1
          · exact hQ1
          · obtain ⟨A69_4, k70_4, hQe, hO73_4, hN74_4⟩ := hQ1
            exact ⟨A69_4, k70_4, hQe, hO73_4.ext hQ2, hN74_4⟩
          · exact hQ1
          · obtain ⟨A79_6, k80_6, hQe, hO83_6, hN84_6⟩ := hQ1
            exact ⟨A79_6, k80_6, hQe, hO83_6.ext hQ2, hN84_6⟩
          · obtain ⟨A79_6_7, k80_6_7, hQe, hO83_6_7, hN84_6_7⟩ := hQ1
            exact ⟨A79_6_7, k80_6_7, hQe, hO83_6_7.ext hQ2, hN84_6_7⟩
        · refine ⟨⟨rfl, ⟨rfl, trivial⟩, ?_⟩, ⟨rfl, ⟨rfl, trivial⟩, ?_⟩, ⟨rfl, ⟨rfl, trivial⟩, ?_⟩, ⟨rfl, ⟨rfl, trivial⟩, ?_⟩, ⟨rfl, trivial, ?_⟩, ⟨rfl, ⟨rfl, trivial⟩, ?_⟩, ⟨rfl, trivial, ?_⟩, ⟨rfl, trivial, ?_⟩, trivial⟩
          · intro w63 hE
            have hE := hE rfl
            have hS := hS.grow hE
            intro RR
            refine WL.loadV (cs := [.int .i64 Pf, .int .i64 Mf, .slice Af mf.length kf]) Try.el24 Try.agg24 rfl rfl (Own.vcells (hS.own (i := 3) rfl)) rfl ?_
            exact WL.done ⟨_, rfl, ext_refl _, rfl, (fun h => absurd h (by decide)), (fun j h => by cases h)⟩
          · intro w64 hE
            have hE := hE rfl
            have hS := hS.grow hE
            intro RR
            refine WL.loadV (cs := [.int .i64 Pf, .int .i64 Mf, .slice Af mf.length kf]) Try.el24 Try.agg24 rfl rfl (Own.vcells (hS.own (i := 3) rfl)) rfl ?_
            exact WL.done ⟨_, rfl, ext_refl _, rfl, (fun h => absurd h (by decide)), (fun j h => by cases h)⟩
          · intro w65 hE
            intro RR
            refine WL.move rfl rfl ?_
            exact WL.done ⟨_, rfl, rfl, rfl, (fun h => absurd h (by decide)), (fun j h => by cases h)⟩
          · intro w66 hE
            intro RR
            refine WL.move rfl rfl ?_
            exact WL.done ⟨_, rfl, rfl, rfl, (fun h => absurd h (by decide)), (fun j h => by cases h)⟩
          · intro w67 hE
            have hE := hE rfl
            have hS := hS.grow hE
            rintro _ rfl
            rintro _ rfl
            rintro _ rfl
            intro RR
            refine WL.call Try.func31 rfl Try.nm31 rfl rfl (calls_un (ok_rpmul (hS.ro hf) (hS.rd (i := 1) rfl) (hS.rd (i := 0) rfl) o75)) ?_
            rintro _ w72 ⟨_, hGw72, hRww72, hNww72, x68q, A69, k70, rfl, rfl, he⟩
            subst he
            have hO73 := (hRww72.get (i := 0) rfl).1
            have hN74 : ∀ g, bl A69 = some g → _ ≤ g := fun g hg => Nat.le_trans hE.size (hNww72.1 g hg)
            exact WL.done ⟨_, rfl, hGw72, ⟨A69, k70, rfl, hO73, hN74⟩, (fun _ => fun g hg => ⟨hNww72.1 g hg, (hO73.bl_ge g hg).2⟩), (fun j h => by cases h)⟩
          · intro w76 hE
            intro RR
            refine WL.move rfl rfl ?_
            exact WL.done ⟨_, rfl, rfl, rfl, (fun h => absurd h (by decide)), (fun j h => by cases h)⟩
          · intro w77 hE
            have hE := hE rfl
            have hS := hS.grow hE
            rintro _ rfl
            rintro _ ⟨A69_4, k70_4, rfl, hO73_4, hN74_4⟩
            rintro _ rfl
            intro RR
            refine WL.call Try.func41 rfl Try.nm41 rfl rfl (calls_un (ok_rrem (hS.ro hf) hO73_4.rd (hS.ro ht) o85)) ?_
            rintro _ w82 ⟨_, hGw82, hRww82, hNww82, x78q, A79, k80, rfl, rfl, he⟩
            subst he
            have hO83 := (hRww82.get (i := 0) rfl).1
            have hN84 : ∀ g, bl A79 = some g → _ ≤ g := fun g hg => Nat.le_trans hE.size (hNww82.1 g hg)
            exact WL.done ⟨_, rfl, hGw82, ⟨A79, k80, rfl, hO83, hN84⟩, (fun _ => fun g hg => ⟨hNww82.1 g hg, (hO83.bl_ge g hg).2⟩), (fun j h => by cases h)⟩
          · intro w86 hE
            rintro _ ⟨A79_6, k80_6, rfl, hO83_6, hN84_6⟩
            intro RR
            refine WL.assign rfl rfl ?_
            exact WL.done ⟨_, rfl, rfl, ⟨A79_6, k80_6, rfl, hO83_6, hN84_6⟩, (fun h => absurd h (by decide)), (fun j h => by cases h; rfl)⟩
        · intro vals w87 hT hVs hAp hCp
          have hS := hS.grow hT
          have hv0 : vals 0 = _ := hVs 0 (by decide)
          have hv1 : vals 1 = _ := hVs 1 (by decide)
          have hv2 : vals 2 = _ := hVs 2 (by decide)
          have hv3 : vals 3 = _ := hVs 3 (by decide)
          obtain ⟨A69_4, k70_4, hv4, hO73_4, hN74_4⟩ := hVs 4 (by decide)
          have hv5 : vals 5 = _ := hVs 5 (by decide)
          obtain ⟨A79_6, k80_6, hv6, hO83_6, hN84_6⟩ := hVs 6 (by decide)
          have hv7 : vals 7 = .slice A79_6 x78.length k80_6 := (hCp 7 6 (by decide) rfl).trans hv6
          have hS := St.addOwn [] hS0 hS hO83_6 hN84_6 (fun s hs => by cases hs)
          change St _ _ _ _ [.row 3 1 A79_6 x78.length k80_6 (is x78), .row 3 1 A45 x44.length k46 (is x44), .row 3 1 A50 x49.length k51 (is x49), .row 3 1 A13 1 1 (is ([(1 : Int)] : List Int)), .row 24 3 (some ⟨g11, 0, none⟩) 1 1 [.int .i64 Pf, .int .i64 Mf, .slice Af mf.length kf]] at hS
          rw [show (List.filterMap (fun i => Option.map (fun t => (t, vals i)) (dstAt _ i)) (List.range _)) = [(23, .agg #[.int .i64 Pf, .int .i64 Mf, .slice Af mf.length kf]), (24, .agg #[.int .i64 Pf, .int .i64 Mf, .slice Af mf.length kf]), (25, .slice A50 x49.length k51), (26, .slice A45 x44.length k46), (27, .slice A69_4 x68.length k70_4), (28, .slice At t.length kt), (29, .slice A79_6 x78.length k80_6), (9, .slice A79_6 x78.length k80_6)] from by
            show [(23, vals 0), (24, vals 1), (25, vals 2), (26, vals 3), (27, vals 4), (28, vals 5), (29, vals 6), (9, vals 7)] = _
            rw [hv0, hv1, hv2, hv3, hv4, hv5, hv6, hv7]]
          refine WA.done (by decide +kernel) ?_
          have hS := hS.pick [0, 1, 3, 4] rfl
          change St _ _ _ _ [.row 3 1 A79_6 x78.length k80_6 (is x78), .row 3 1 A45 x44.length k46 (is x44), .row 3 1 A13 1 1 (is ([(1 : Int)] : List Int)), .row 24 3 (some ⟨g11, 0, none⟩) 1 1 [.int .i64 Pf, .int .i64 Mf, .slice Af mf.length kf]] at hS
          exact ⟨(x78, A79_6, k80_6), ⟨rfl, rfl, rfl, rfl, rfl, rfl, rfl, rfl, trivial⟩, rfl, hv, hS⟩
      · have hv := hv.2 (of_decide_eq_false c62)
        refine W.skip ?_
        have hS := hS.pick [1, 0, 2, 3] rfl
        change St _ _ _ _ [.row 3 1 A50 x49.length k51 (is x49), .row 3 1 A45 x44.length k46 (is x44), .row 3 1 A13 1 1 (is ([(1 : Int)] : List Int)), .row 24 3 (some ⟨g11, 0, none⟩) 1 1 [.int .i64 Pf, .int .i64 Mf, .slice Af mf.length kf]] at hS
        exact ⟨(x49, A50, k51), ⟨rfl, rfl, rfl, rfl, rfl, rfl, rfl, rfl, trivial⟩, rfl, hv, hS⟩
    · rintro ⟨x57, A58, k59⟩ w89 ⟨hv, hS⟩
      have hv := hk117 x57 hv
      refine W.seq ?_
      obtain ⟨x95, o102, hv⟩ := hv
      obtain ⟨x105, o112, hv⟩ := hv
      have hS0 := hS
      refine W.drawX 8 (fun iA => [false, false, false, false, true, false, true, false].getD iA false) (fun iC => match iC with | 7 => some 6 | _ => none) [⟨[], [4], false⟩, ⟨[], [4], false⟩, ⟨[], [1], true⟩, ⟨[], [1], true⟩, ⟨[1, 2, 3], [], false⟩, ⟨[], [3], true⟩, ⟨[0, 4, 5], [], false⟩, ⟨[6], [], true⟩] [[(4, .pointer (some ⟨g11, 0, none⟩))], [(4, .pointer (some ⟨g11, 0, none⟩))], [(1, .slice A45 x44.length k46)], [(1, .slice A45 x44.length k46)], [], [(3, .slice At t.length kt)], [], []] (fun iQ => [fun v _ => v = .agg #[.int .i64 Pf, .int .i64 Mf, .slice Af mf.length kf], fun v _ => v = .agg #[.int .i64 Pf, .int .i64 Mf, .slice Af mf.length kf], fun v _ => v = .slice A45 x44.length k46, fun v _ => v = .slice A45 x44.length k46, fun v wQ => ∃ A96_4 k97_4, v = .slice A96_4 x95.length k97_4 ∧ Own 0 wQ 3 1 A96_4 x95.length k97_4 (is x95) ∧ (∀ g, bl A96_4 = some g → w89.heap.size ≤ g), fun v _ => v = .slice At t.length kt, fun v wQ => ∃ A106_6 k107_6, v = .slice A106_6 x105.length k107_6 ∧ Own 0 wQ 3 1 A106_6 x105.length k107_6 (is x105) ∧ (∀ g, bl A106_6 = some g → w89.heap.size ≤ g), fun v wQ => ∃ A106_6_7 k107_6_7, v = .slice A106_6_7 x105.length k107_6_7 ∧ Own 0 wQ 3 1 A106_6_7 x105.length k107_6_7 (is x105) ∧ (∀ g, bl A106_6_7 = some g → w89.heap.size ≤ g)].getD iQ (fun _ _ => True)) Try.mixed (by kernel_rfl) ?_ (by kernel_rfl) ?_ ?_
      · refine Vs_monoT _ ?_
        intro VQ hVQ vQ wQ1 wQ2 hQ1 hQ2
        simp only [List.mem_cons, List.not_mem_nil, or_false] at hVQ
        rcases hVQ with rfl | rfl | rfl | rfl | rfl | rfl | rfl | rfl
        · exact hQ1
        · exact hQ1
        · exact hQ1
        · exact hQ1
        · obtain ⟨A96_4, k97_4, hQe, hO100_4, hN101_4⟩ := hQ1
          exact ⟨A96_4, k97_4, hQe, hO100_4.ext hQ2, hN101_4⟩
        · exact hQ1
        · obtain ⟨A106_6, k107_6, hQe, hO110_6, hN111_6⟩ := hQ1
          exact ⟨A106_6, k107_6, hQe, hO110_6.ext hQ2, hN111_6⟩
        · obtain ⟨A106_6_7, k107_6_7, hQe, hO110_6_7, hN111_6_7⟩ := hQ1
          exact ⟨A106_6_7, k107_6_7, hQe, hO110_6_7.ext hQ2, hN111_6_7⟩
      · refine ⟨⟨rfl, ⟨rfl, trivial⟩, ?_⟩, ⟨rfl, ⟨rfl, trivial⟩, ?_⟩, ⟨rfl, ⟨rfl, trivial⟩, ?_⟩, ⟨rfl, ⟨rfl, trivial⟩, ?_⟩, ⟨rfl, trivial, ?_⟩, ⟨rfl, ⟨rfl, trivial⟩, ?_⟩, ⟨rfl, trivial, ?_⟩, ⟨rfl, trivial, ?_⟩, trivial⟩
        · intro w90 hE
          have hE := hE rfl
          have hS := hS.grow hE
          intro RR
          refine WL.loadV (cs := [.int .i64 Pf, .int .i64 Mf, .slice Af mf.length kf]) Try.el24 Try.agg24 rfl rfl (Own.vcells (hS.own (i := 3) rfl)) rfl ?_
          exact WL.done ⟨_, rfl, ext_refl _, rfl, (fun h => absurd h (by decide)), (fun j h => by cases h)⟩
        · intro w91 hE
          have hE := hE rfl
          have hS := hS.grow hE
          intro RR
          refine WL.loadV (cs := [.int .i64 Pf, .int .i64 Mf, .slice Af mf.length kf]) Try.el24 Try.agg24 rfl rfl (Own.vcells (hS.own (i := 3) rfl)) rfl ?_
          exact WL.done ⟨_, rfl, ext_refl _, rfl, (fun h => absurd h (by decide)), (fun j h => by cases h)⟩
        · intro w92 hE
          intro RR
          refine WL.move rfl rfl ?_
          exact WL.done ⟨_, rfl, rfl, rfl, (fun h => absurd h (by decide)), (fun j h => by cases h)⟩
        · intro w93 hE
          intro RR
          refine WL.move rfl rfl ?_
          exact WL.done ⟨_, rfl, rfl, rfl, (fun h => absurd h (by decide)), (fun j h => by cases h)⟩
        · intro w94 hE
          have hE := hE rfl
          have hS := hS.grow hE
          rintro _ rfl
          rintro _ rfl
          rintro _ rfl
          intro RR
          refine WL.call Try.func31 rfl Try.nm31 rfl rfl (calls_un (ok_rpmul (hS.ro hf) (hS.rd (i := 1) rfl) (hS.rd (i := 1) rfl) o102)) ?_
          rintro _ w99 ⟨_, hGw99, hRww99, hNww99, x95q, A96, k97, rfl, rfl, he⟩
          subst he
          have hO100 := (hRww99.get (i := 0) rfl).1
          have hN101 : ∀ g, bl A96 = some g → _ ≤ g := fun g hg => Nat.le_trans hE.size (hNww99.1 g hg)
          exact WL.done ⟨_, rfl, hGw99, ⟨A96, k97, rfl, hO100, hN101⟩, (fun _ => fun g hg => ⟨hNww99.1 g hg, (hO100.bl_ge g hg).2⟩), (fun j h => by cases h)⟩
        · intro w103 hE
          intro RR
          refine WL.move rfl rfl ?_
          exact WL.done ⟨_, rfl, rfl, rfl, (fun h => absurd h (by decide)), (fun j h => by cases h)⟩
        · intro w104 hE
          have hE := hE rfl
          have hS := hS.grow hE
          rintro _ rfl
          rintro _ ⟨A96_4, k97_4, rfl, hO100_4, hN101_4⟩
          rintro _ rfl
          intro RR
          refine WL.call Try.func41 rfl Try.nm41 rfl rfl (calls_un (ok_rrem (hS.ro hf) hO100_4.rd (hS.ro ht) o112)) ?_
          rintro _ w109 ⟨_, hGw109, hRww109, hNww109, x105q, A106, k107, rfl, rfl, he⟩
          subst he
          have hO110 := (hRww109.get (i := 0) rfl).1
          have hN111 : ∀ g, bl A106 = some g → _ ≤ g := fun g hg => Nat.le_trans hE.size (hNww109.1 g hg)
          exact WL.done ⟨_, rfl, hGw109, ⟨A106, k107, rfl, hO110, hN111⟩, (fun _ => fun g hg => ⟨hNww109.1 g hg, (hO110.bl_ge g hg).2⟩), (fun j h => by cases h)⟩
        · intro w113 hE
          rintro _ ⟨A106_6, k107_6, rfl, hO110_6, hN111_6⟩
          intro RR
          refine WL.assign rfl rfl ?_
          exact WL.done ⟨_, rfl, rfl, ⟨A106_6, k107_6, rfl, hO110_6, hN111_6⟩, (fun h => absurd h (by decide)), (fun j h => by cases h; rfl)⟩
      · intro vals w114 hT hVs hAp hCp
        have hS := hS.grow hT
        have hv0 : vals 0 = _ := hVs 0 (by decide)
        have hv1 : vals 1 = _ := hVs 1 (by decide)
        have hv2 : vals 2 = _ := hVs 2 (by decide)
        have hv3 : vals 3 = _ := hVs 3 (by decide)
        obtain ⟨A96_4, k97_4, hv4, hO100_4, hN101_4⟩ := hVs 4 (by decide)
        have hv5 : vals 5 = _ := hVs 5 (by decide)
        obtain ⟨A106_6, k107_6, hv6, hO110_6, hN111_6⟩ := hVs 6 (by decide)
        have hv7 : vals 7 = .slice A106_6 x105.length k107_6 := (hCp 7 6 (by decide) rfl).trans hv6
        have hS := St.addOwn [] hS0 hS hO110_6 hN111_6 (fun s hs => by cases hs)
        change St _ _ _ _ [.row 3 1 A106_6 x105.length k107_6 (is x105), .row 3 1 A58 x57.length k59 (is x57), .row 3 1 A45 x44.length k46 (is x44), .row 3 1 A13 1 1 (is ([(1 : Int)] : List Int)), .row 24 3 (some ⟨g11, 0, none⟩) 1 1 [.int .i64 Pf, .int .i64 Mf, .slice Af mf.length kf]] at hS
        rw [show (List.filterMap (fun i => Option.map (fun t => (t, vals i)) (dstAt _ i)) (List.range _)) = [(30, .agg #[.int .i64 Pf, .int .i64 Mf, .slice Af mf.length kf]), (31, .agg #[.int .i64 Pf, .int .i64 Mf, .slice Af mf.length kf]), (32, .slice A45 x44.length k46), (33, .slice A45 x44.length k46), (34, .slice A96_4 x95.length k97_4), (35, .slice At t.length kt), (36, .slice A106_6 x105.length k107_6), (1, .slice A106_6 x105.length k107_6)] from by
          show [(30, vals 0), (31, vals 1), (32, vals 2), (33, vals 3), (34, vals 4), (35, vals 5), (36, vals 6), (1, vals 7)] = _
          rw [hv0, hv1, hv2, hv3, hv4, hv5, hv6, hv7]]
        refine WA.done (by decide +kernel) ?_
        refine W.region ?_
        refine WL.move rfl rfl ?_
        obtain ⟨o116, hv⟩ := hv
        refine WL.quo (r := (z48.tdiv (2 : Int))) rfl rfl o116.1 (wr o116.2) rfl ?_
        refine WL.assign rfl rfl ?_
        refine WL.done ?_
        have hS := hS.pick [0, 1, 3, 4] rfl
        change St _ _ _ _ [.row 3 1 A106_6 x105.length k107_6 (is x105), .row 3 1 A58 x57.length k59 (is x57), .row 3 1 A13 1 1 (is ([(1 : Int)] : List Int)), .row 24 3 (some ⟨g11, 0, none⟩) 1 1 [.int .i64 Pf, .int .i64 Mf, .slice Af mf.length kf]] at hS
        exact ⟨(x105, (z48.tdiv (2 : Int)), x57, A106_6, k107_6, A58, k59), ⟨rfl, rfl, rfl, rfl, rfl, rfl, trivial⟩, hv.2, rfl, hv.1, hS⟩
  · have hv := hv.2 (of_decide_eq_false c56)
    refine W.exit ?_
    refine W.seq ?_
    refine W.region ?_
    refine WL.move rfl rfl ?_
    refine WL.assign rfl rfl ?_
    refine WL.done ?_
    refine W.ret ?_
    refine ⟨_, rfl, Fin.nil ?_⟩
    exact ⟨_, hS.ext, (hS.pick [1] rfl).rows, News.of (hS.pick [1] rfl).rows rfl, ⟨x49, A50, k51, rfl, rfl, hv⟩⟩

end Go.Proofs.Ytmdigamgojfjdaa
set_option linter.unusedVariables false
set_option linter.unusedSimpArgs false
namespace Go.Proofs.Ytmdigamgojfjdaa
open Ks
/-! ### the reference's quotients, values; what the laws ask first -/
section
variable {k : Ks} {F : GFv} {P M : Int} {mf : List Int}
theorem w_rrem {p t : List Int} {Q : List Int → Prop} (hF : FV P M mf k.p k.m k.v) (hp : p.length ≤ 10000) (ht : t.length ≤ 10000) (h0 : k.pol t ≠ 0) (hQ : Q (k.L (rm (k.pol p) (k.pol t)))) : V_rrem P M mf p t Q :=
  w_rdivmod hF hp ht h0 hQ
end
end Go.Proofs.Ytmdigamgojfjdaa
namespace Go.Proofs.Ytmdigamgojfjdaa
open Go.RowKit
/-- The number of binary digits. -/
def bitn (x : Nat) : Nat := if x = 0 then 0 else Nat.log2 x + 1
theorem bitn_le {x k : Nat} : bitn x ≤ k ↔ x < 2 ^ k := by
  unfold bitn
  split
  · rename_i h; subst h; simp [Nat.pow_pos]
  · rename_i h
    rw [← Nat.log2_lt h]; omega
theorem bitn_lt {x k : Nat} : k < bitn x ↔ 2 ^ k ≤ x := by
  have := bitn_le (x := x) (k := k); omega
theorem bitn_uniq {x k : Nat} (h1 : 2 ^ k ≤ x) (h2 : x < 2 ^ (k + 1)) : bitn x = k + 1 := by
  have := bitn_lt.2 h1; have := bitn_le.2 h2; omega
theorem bitn_half {x : Nat} (h : 0 < x) : bitn (x / 2) + 1 = bitn x := by
  rcases Nat.lt_or_ge x 2 with h2 | h2
  · have : x = 1 := by omega
    subst this; decide
  · have e : 0 < bitn (x / 2) := bitn_lt.2 (by omega)
    obtain ⟨k, hk⟩ : ∃ k, bitn (x / 2) = k + 1 := ⟨bitn (x / 2) - 1, by omega⟩
    have h3 : 2 ^ k ≤ x / 2 := bitn_lt.1 (by omega)
    have h4 : x / 2 < 2 ^ (k + 1) := bitn_le.1 (by omega)
    rw [hk, bitn_uniq (k := k + 1) (by rw [Nat.pow_succ]; omega) (by rw [Nat.pow_succ]; omega)]
theorem bitn_shift {x s : Nat} (h : 0 < x / 2 ^ s) : bitn (x / 2 ^ s) + s = bitn x := by
  induction s generalizing x with
  | zero => simp
  | succ s ih =>
    have e : x / 2 ^ (s + 1) = x / 2 / 2 ^ s := by rw [Nat.pow_succ, Nat.mul_comm, Nat.div_div_eq_div_mul]
    rw [e] at h ⊢
    have h1 := ih h
    have hx : 0 < x := by
      rcases Nat.eq_zero_or_pos x with h0 | h0
      · subst h0; simp at h
      · exact h0
    have h2 := bitn_half hx
    omega
theorem bitn_s32 {x : Nat} (h : 4294967296 ≤ x) : bitn (x / 4294967296) + 32 = bitn x := bitn_shift (s := 32) (by omega)
theorem bitn_16 {x : Nat} (h : 65536 ≤ x) : bitn (x / 65536) + 16 = bitn x := bitn_shift (s := 16) (by omega)
theorem bitn_8 {x : Nat} (h : 256 ≤ x) : bitn (x / 256) + 8 = bitn x := bitn_shift (s := 8) (by omega)
theorem bitn_8lt {x : Nat} (h : x < 256) : bitn x ≤ 8 := bitn_le.2 h
/-- A constant table. -/
theorem WL.indexTab {P : Program} {n : Nat} {ro : Option Nat} {df : List Deferred} {N : Post} {L : Fr} {w : World} {ops : Array Oper} {rest : List Oper} {d : Nat} {ty : TypeId} {pos : String} {af : Array Edge} {x y : Operand} {tx : TypeId} {s : ByteArray} {k : IntKind} {X : Int} {i : Nat} (g : Nat → Nat)
    (ht : P.underlying tx = some .string) (hx : ev L x = some (.string s)) (hy : ev L y = some (.int k X)) (hX : X = i) (hi : i < 256) (hs : ∀ i : _root_.Fin 256, (s[i.val]?).map UInt8.toNat = some (g i.val)) (hn : Nat.blt d n = true)
    (h : WL P n ro df ops rest N ((d, .int .u8 (g i : Nat)) :: L) w) : WL P n ro df ops (⟨some d, .index tx x y, ty, pos, af, none⟩ :: rest) N L w := by
  subst hX
  have h1 := hs ⟨i, hi⟩
  simp only [Option.map_eq_some_iff] at h1
  obtain ⟨b, hb1, hb2⟩ := h1
  exact WL.val rfl rfl hn (fun a ha => by simp [execOp, Instr.index, asIntOf, ha.ev hx, ha.ev hy, run_underlying ht, hb1, hb2]) h
def ishr (x y : Int) : Int := x.fdiv (2 ^ min y.toNat IntKind.i64.bits)
def iand (x y : Int) : Int := ((x.toNat &&& y.toNat : Nat) : Int)
theorem run_iand {P : Program} {w : World} {x y : Int} (h : 0 ≤ x ∧ x < 9223372036854775808 ∧ 0 ≤ y ∧ y < 9223372036854775808) : (Op.intBits .and .i64 x y).run P w = .ok (.int .i64 (iand x y)) w := by
  obtain ⟨h1, h2, h3, h4⟩ := h
  obtain ⟨a, rfl⟩ := Int.eq_ofNat_of_zero_le h1
  obtain ⟨b, rfl⟩ := Int.eq_ofNat_of_zero_le h3
  have ha : a < 2 ^ 63 := by omega
  have hb : b < 2 ^ 63 := by omega
  have hab : a &&& b < 2 ^ 63 := Nat.and_lt_two_pow a hb
  have e1 : (BitVec.ofInt 64 (a : Int) &&& BitVec.ofInt 64 (b : Int)).toNat = a &&& b := by
    rw [BitVec.ofInt_natCast, BitVec.ofInt_natCast, BitVec.toNat_and, BitVec.toNat_ofNat, BitVec.toNat_ofNat, Nat.mod_eq_of_lt (by omega), Nat.mod_eq_of_lt (by omega)]
  have e2 : IntKind.i64.wrap ((a &&& b : Nat) : Int) = ((a &&& b : Nat) : Int) := wi64 (by omega) (by omega) rfl
  show Result.ok (Value.int .i64 (IntKind.i64.wrap ((BitVec.ofInt 64 (a : Int) &&& BitVec.ofInt 64 (b : Int)).toNat : Int))) w = Result.ok (Value.int .i64 (((a : Int).toNat &&& (b : Int).toNat : Nat) : Int)) w
  rw [e1, e2]
  rfl
end Go.Proofs.Ytmdigamgojfjdaa
set_option linter.unusedSimpArgs false
set_option linter.unusedVariables false
namespace Go.Proofs.Ytmdigamgojfjdaa
open Go.RowKit
def V_len64 (X : Int) (Q : Int → Prop) : Prop := (0 ≤ X ∧ X < 18446744073709551616) ∧ Q ((bitn X.toNat : Nat) : Int)
theorem ok_len64 {w : World} {Q : Int → Prop} {X : Int} (hv : V_len64 X Q) :
    Calls Try.prog 103 #[.int .u64 X] w fun e w' => ∃ v Qr, e = .returned v ∧ w.grownBy w' none ∧ Rows w.heap.size none w' Qr ∧ News w.heap.size Qr ∧ ∃ (r0 : Int), v = .int .i64 r0 ∧ Qr = [] ∧ Q r0 := by
  obtain ⟨⟨h0, hb⟩, hv⟩ := hv
  refine calls_swap ?_
  obtain ⟨x, rfl⟩ := Int.eq_ofNat_of_zero_le h0
  have hb : x < 18446744073709551616 := by omega
  rw [Int.toNat_natCast] at hv
  refine calls_of_W (vs := [.int .u64 (x : Int)]) [2] Try.func103 rfl rfl rfl rfl ?_
  have hS := St.start w
  refine W.seq ?_
  refine W.region ?_
  refine WL.assign rfl rfl ?_
  refine WL.done ?_
  refine W.seq ?_
  refine W.seq ?_
  refine W.region ?_
  refine WL.move rfl rfl ?_
  refine WL.geq rfl rfl rfl (fun c10 => ?_) (fun c10 => ?_)
  · refine WL.done ?_
    refine W.condT rfl ?_
    refine W.seq ?_
    refine W.region ?_
    refine WL.move rfl rfl ?_
    refine WL.shr (r := ((x / 4294967296 : Nat) : Int)) rfl rfl (by omega) (shr_nat (a := x) (s := 32) (by omega) (by omega) 64 (by omega)) rfl ?_
    refine WL.assign rfl rfl ?_
    refine WL.done ?_
    refine W.region ?_
    refine WL.assign rfl rfl ?_
    refine WL.done ?_
    refine W.seq ?_
    refine W.seq ?_
    refine W.region ?_
    refine WL.move rfl rfl ?_
    refine WL.geq rfl rfl rfl (fun c11 => ?_) (fun c11 => ?_)
    · refine WL.done ?_
      refine W.condT rfl ?_
      refine W.seq ?_
      refine W.region ?_
      refine WL.move rfl rfl ?_
      refine WL.shr (r := ((x / 4294967296 / 65536 : Nat) : Int)) rfl rfl (by omega) (shr_nat (a := x / 4294967296) (s := 16) (by omega) (by omega) 64 (by omega)) rfl ?_
      refine WL.assign rfl rfl ?_
      refine WL.done ?_
      refine W.region ?_
      refine WL.move rfl rfl ?_
      refine WL.add (r := ((32 + 16 : Nat) : Int)) rfl rfl (wi64 (by omega) (by omega) (by omega)) rfl ?_
      refine WL.assign rfl rfl ?_
      refine WL.done ?_
      refine W.seq ?_
      refine W.seq ?_
      refine W.region ?_
      refine WL.move rfl rfl ?_
      refine WL.geq rfl rfl rfl (fun c12 => ?_) (fun c12 => ?_)
      · refine WL.done ?_
        refine W.condT rfl ?_
        refine W.seq ?_
        refine W.region ?_
        refine WL.move rfl rfl ?_
        refine WL.shr (r := ((x / 4294967296 / 65536 / 256 : Nat) : Int)) rfl rfl (by omega) (shr_nat (a := x / 4294967296 / 65536) (s := 8) (by omega) (by omega) 64 (by omega)) rfl ?_
        refine WL.assign rfl rfl ?_
        refine WL.done ?_
        refine W.region ?_
        refine WL.move rfl rfl ?_
        refine WL.add (r := ((32 + 16 + 8 : Nat) : Int)) rfl rfl (wi64 (by omega) (by omega) (by omega)) rfl ?_
        refine WL.assign rfl rfl ?_
        refine WL.done ?_
        have hb8 := bitn_8lt (x := x / 4294967296 / 65536 / 256) (by omega)
        refine W.seq ?_
        refine W.region ?_
        refine WL.move rfl rfl ?_
        refine WL.move rfl rfl ?_
        refine WL.conv (r := ((x / 4294967296 / 65536 / 256 : Nat) : Int)) Try.underlying102 Try.underlying5 rfl (wu8 (by omega) (by omega) (by omega)) rfl ?_
        refine WL.indexTab (i := x / 4294967296 / 65536 / 256) bitn Try.underlying9 rfl rfl (by omega) (by omega) (by decide +kernel) rfl ?_
        refine WL.conv (r := ((bitn (x / 4294967296 / 65536 / 256) : Nat) : Int)) Try.underlying5 Try.underlying3 rfl (wi64 (by omega) (by omega) (by omega)) rfl ?_
        refine WL.add (r := ((32 + 16 + 8 + bitn (x / 4294967296 / 65536 / 256) : Nat) : Int)) rfl rfl (wi64 (by omega) (by omega) (by omega)) rfl ?_
        refine WL.assign rfl rfl ?_
        refine WL.done ?_
        refine W.ret ?_
        refine ⟨_, rfl, Fin.nil ?_⟩
        have ev_ : 32 + 16 + 8 + bitn (x / 4294967296 / 65536 / 256) = bitn x := by have := bitn_s32 (x := x) (by omega); have := bitn_16 (x := x / 4294967296) (by omega); have := bitn_8 (x := x / 4294967296 / 65536) (by omega); omega
        exact ⟨_, hS.ext, (hS.pick [] rfl).rows, News.of (hS.pick [] rfl).rows rfl, ⟨_, rfl, rfl, by rw [ev_]; exact hv⟩⟩
      · refine WL.done ?_
        refine W.condF rfl ?_
        refine W.skip ?_
        have hb8 := bitn_8lt (x := x / 4294967296 / 65536) (by omega)
        refine W.seq ?_
        refine W.region ?_
        refine WL.move rfl rfl ?_
        refine WL.move rfl rfl ?_
        refine WL.conv (r := ((x / 4294967296 / 65536 : Nat) : Int)) Try.underlying102 Try.underlying5 rfl (wu8 (by omega) (by omega) (by omega)) rfl ?_
        refine WL.indexTab (i := x / 4294967296 / 65536) bitn Try.underlying9 rfl rfl (by omega) (by omega) (by decide +kernel) rfl ?_
        refine WL.conv (r := ((bitn (x / 4294967296 / 65536) : Nat) : Int)) Try.underlying5 Try.underlying3 rfl (wi64 (by omega) (by omega) (by omega)) rfl ?_
        refine WL.add (r := ((32 + 16 + bitn (x / 4294967296 / 65536) : Nat) : Int)) rfl rfl (wi64 (by omega) (by omega) (by omega)) rfl ?_
        refine WL.assign rfl rfl ?_
        refine WL.done ?_
        refine W.ret ?_
        refine ⟨_, rfl, Fin.nil ?_⟩
        have ev_ : 32 + 16 + bitn (x / 4294967296 / 65536) = bitn x := by have := bitn_s32 (x := x) (by omega); have := bitn_16 (x := x / 4294967296) (by omega); omega
        exact ⟨_, hS.ext, (hS.pick [] rfl).rows, News.of (hS.pick [] rfl).rows rfl, ⟨_, rfl, rfl, by rw [ev_]; exact hv⟩⟩
    · refine WL.done ?_
      refine W.condF rfl ?_
      refine W.skip ?_
      refine W.seq ?_
      refine W.seq ?_
      refine W.region ?_
      refine WL.move rfl rfl ?_
      refine WL.geq rfl rfl rfl (fun c12 => ?_) (fun c12 => ?_)
      · refine WL.done ?_
        refine W.condT rfl ?_
        refine W.seq ?_
        refine W.region ?_
        refine WL.move rfl rfl ?_
        refine WL.shr (r := ((x / 4294967296 / 256 : Nat) : Int)) rfl rfl (by omega) (shr_nat (a := x / 4294967296) (s := 8) (by omega) (by omega) 64 (by omega)) rfl ?_
        refine WL.assign rfl rfl ?_
        refine WL.done ?_
        refine W.region ?_
        refine WL.move rfl rfl ?_
        refine WL.add (r := ((32 + 8 : Nat) : Int)) rfl rfl (wi64 (by omega) (by omega) (by omega)) rfl ?_
        refine WL.assign rfl rfl ?_
        refine WL.done ?_
        have hb8 := bitn_8lt (x := x / 4294967296 / 256) (by omega)
        refine W.seq ?_
        refine W.region ?_
        refine WL.move rfl rfl ?_
        refine WL.move rfl rfl ?_
        refine WL.conv (r := ((x / 4294967296 / 256 : Nat) : Int)) Try.underlying102 Try.underlying5 rfl (wu8 (by omega) (by omega) (by omega)) rfl ?_
        refine WL.indexTab (i := x / 4294967296 / 256) bitn Try.underlying9 rfl rfl (by omega) (by omega) (by decide +kernel) rfl ?_
        refine WL.conv (r := ((bitn (x / 4294967296 / 256) : Nat) : Int)) Try.underlying5 Try.underlying3 rfl (wi64 (by omega) (by omega) (by omega)) rfl ?_
        refine WL.add (r := ((32 + 8 + bitn (x / 4294967296 / 256) : Nat) : Int)) rfl rfl (wi64 (by omega) (by omega) (by omega)) rfl ?_
        refine WL.assign rfl rfl ?_
        refine WL.done ?_
        refine W.ret ?_
        refine ⟨_, rfl, Fin.nil ?_⟩
        have ev_ : 32 + 8 + bitn (x / 4294967296 / 256) = bitn x := by have := bitn_s32 (x := x) (by omega); have := bitn_8 (x := x / 4294967296) (by omega); omega
        exact ⟨_, hS.ext, (hS.pick [] rfl).rows, News.of (hS.pick [] rfl).rows rfl, ⟨_, rfl, rfl, by rw [ev_]; exact hv⟩⟩
      · refine WL.done ?_
        refine W.condF rfl ?_
        refine W.skip ?_
        have hb8 := bitn_8lt (x := x / 4294967296) (by omega)
        refine W.seq ?_
        refine W.region ?_
        refine WL.move rfl rfl ?_
        refine WL.move rfl rfl ?_
        refine WL.conv (r := ((x / 4294967296 : Nat) : Int)) Try.underlying102 Try.underlying5 rfl (wu8 (by omega) (by omega) (by omega)) rfl ?_
        refine WL.indexTab (i := x / 4294967296) bitn Try.underlying9 rfl rfl (by omega) (by omega) (by decide +kernel) rfl ?_
        refine WL.conv (r := ((bitn (x / 4294967296) : Nat) : Int)) Try.underlying5 Try.underlying3 rfl (wi64 (by omega) (by omega) (by omega)) rfl ?_
        refine WL.add (r := ((32 + bitn (x / 4294967296) : Nat) : Int)) rfl rfl (wi64 (by omega) (by omega) (by omega)) rfl ?_
        refine WL.assign rfl rfl ?_
        refine WL.done ?_
        refine W.ret ?_
        refine ⟨_, rfl, Fin.nil ?_⟩
        have ev_ : 32 + bitn (x / 4294967296) = bitn x := by have := bitn_s32 (x := x) (by omega); omega
        exact ⟨_, hS.ext, (hS.pick [] rfl).rows, News.of (hS.pick [] rfl).rows rfl, ⟨_, rfl, rfl, by rw [ev_]; exact hv⟩⟩
  · refine WL.done ?_
    refine W.condF rfl ?_
    refine W.skip ?_
    refine W.seq ?_
    refine W.seq ?_
    refine W.region ?_
    refine WL.move rfl rfl ?_
    refine WL.geq rfl rfl rfl (fun c11 => ?_) (fun c11 => ?_)
    · refine WL.done ?_
      refine W.condT rfl ?_
      refine W.seq ?_
      refine W.region ?_
      refine WL.move rfl rfl ?_
      refine WL.shr (r := ((x / 65536 : Nat) : Int)) rfl rfl (by omega) (shr_nat (a := x) (s := 16) (by omega) (by omega) 64 (by omega)) rfl ?_
      refine WL.assign rfl rfl ?_
      refine WL.done ?_
      refine W.region ?_
      refine WL.move rfl rfl ?_
      refine WL.add (r := ((0 + 16 : Nat) : Int)) rfl rfl (wi64 (by omega) (by omega) (by omega)) rfl ?_
      refine WL.assign rfl rfl ?_
      refine WL.done ?_
      refine W.seq ?_
      refine W.seq ?_
      refine W.region ?_
      refine WL.move rfl rfl ?_
      refine WL.geq rfl rfl rfl (fun c12 => ?_) (fun c12 => ?_)
      · refine WL.done ?_
        refine W.condT rfl ?_
        refine W.seq ?_
        refine W.region ?_
        refine WL.move rfl rfl ?_
        refine WL.shr (r := ((x / 65536 / 256 : Nat) : Int)) rfl rfl (by omega) (shr_nat (a := x / 65536) (s := 8) (by omega) (by omega) 64 (by omega)) rfl ?_
        refine WL.assign rfl rfl ?_
        refine WL.done ?_
        refine W.region ?_
        refine WL.move rfl rfl ?_
        refine WL.add (r := ((0 + 16 + 8 : Nat) : Int)) rfl rfl (wi64 (by omega) (by omega) (by omega)) rfl ?_
        refine WL.assign rfl rfl ?_
        refine WL.done ?_
        have hb8 := bitn_8lt (x := x / 65536 / 256) (by omega)
        refine W.seq ?_
        refine W.region ?_
        refine WL.move rfl rfl ?_
        refine WL.move rfl rfl ?_
        refine WL.conv (r := ((x / 65536 / 256 : Nat) : Int)) Try.underlying102 Try.underlying5 rfl (wu8 (by omega) (by omega) (by omega)) rfl ?_
        refine WL.indexTab (i := x / 65536 / 256) bitn Try.underlying9 rfl rfl (by omega) (by omega) (by decide +kernel) rfl ?_
        refine WL.conv (r := ((bitn (x / 65536 / 256) : Nat) : Int)) Try.underlying5 Try.underlying3 rfl (wi64 (by omega) (by omega) (by omega)) rfl ?_
        refine WL.add (r := ((0 + 16 + 8 + bitn (x / 65536 / 256) : Nat) : Int)) rfl rfl (wi64 (by omega) (by omega) (by omega)) rfl ?_
        refine WL.assign rfl rfl ?_
        refine WL.done ?_
        refine W.ret ?_
        refine ⟨_, rfl, Fin.nil ?_⟩
        have ev_ : 0 + 16 + 8 + bitn (x / 65536 / 256) = bitn x := by have := bitn_16 (x := x) (by omega); have := bitn_8 (x := x / 65536) (by omega); omega
        exact ⟨_, hS.ext, (hS.pick [] rfl).rows, News.of (hS.pick [] rfl).rows rfl, ⟨_, rfl, rfl, by rw [ev_]; exact hv⟩⟩
      · refine WL.done ?_
        refine W.condF rfl ?_
        refine W.skip ?_
        have hb8 := bitn_8lt (x := x / 65536) (by omega)
        refine W.seq ?_
        refine W.region ?_
        refine WL.move rfl rfl ?_
        refine WL.move rfl rfl ?_
        refine WL.conv (r := ((x / 65536 : Nat) : Int)) Try.underlying102 Try.underlying5 rfl (wu8 (by omega) (by omega) (by omega)) rfl ?_
        refine WL.indexTab (i := x / 65536) bitn Try.underlying9 rfl rfl (by omega) (by omega) (by decide +kernel) rfl ?_
        refine WL.conv (r := ((bitn (x / 65536) : Nat) : Int)) Try.underlying5 Try.underlying3 rfl (wi64 (by omega) (by omega) (by omega)) rfl ?_
        refine WL.add (r := ((0 + 16 + bitn (x / 65536) : Nat) : Int)) rfl rfl (wi64 (by omega) (by omega) (by omega)) rfl ?_
        refine WL.assign rfl rfl ?_
        refine WL.done ?_
        refine W.ret ?_
        refine ⟨_, rfl, Fin.nil ?_⟩
        have ev_ : 0 + 16 + bitn (x / 65536) = bitn x := by have := bitn_16 (x := x) (by omega); omega
        exact ⟨_, hS.ext, (hS.pick [] rfl).rows, News.of (hS.pick [] rfl).rows rfl, ⟨_, rfl, rfl, by rw [ev_]; exact hv⟩⟩
    · refine WL.done ?_
      refine W.condF rfl ?_
      refine W.skip ?_
      refine W.seq ?_
      refine W.seq ?_
      refine W.region ?_
      refine WL.move rfl rfl ?_
      refine WL.geq rfl rfl rfl (fun c12 => ?_) (fun c12 => ?_)
      · refine WL.done ?_
        refine W.condT rfl ?_
        refine W.seq ?_
        refine W.region ?_
        refine WL.move rfl rfl ?_
        refine WL.shr (r := ((x / 256 : Nat) : Int)) rfl rfl (by omega) (shr_nat (a := x) (s := 8) (by omega) (by omega) 64 (by omega)) rfl ?_
        refine WL.assign rfl rfl ?_
        refine WL.done ?_
        refine W.region ?_
        refine WL.move rfl rfl ?_
        refine WL.add (r := ((0 + 8 : Nat) : Int)) rfl rfl (wi64 (by omega) (by omega) (by omega)) rfl ?_
        refine WL.assign rfl rfl ?_
        refine WL.done ?_
        have hb8 := bitn_8lt (x := x / 256) (by omega)
        refine W.seq ?_
        refine W.region ?_
        refine WL.move rfl rfl ?_
        refine WL.move rfl rfl ?_
        refine WL.conv (r := ((x / 256 : Nat) : Int)) Try.underlying102 Try.underlying5 rfl (wu8 (by omega) (by omega) (by omega)) rfl ?_
        refine WL.indexTab (i := x / 256) bitn Try.underlying9 rfl rfl (by omega) (by omega) (by decide +kernel) rfl ?_
        refine WL.conv (r := ((bitn (x / 256) : Nat) : Int)) Try.underlying5 Try.underlying3 rfl (wi64 (by omega) (by omega) (by omega)) rfl ?_
        refine WL.add (r := ((0 + 8 + bitn (x / 256) : Nat) : Int)) rfl rfl (wi64 (by omega) (by omega) (by omega)) rfl ?_
        refine WL.assign rfl rfl ?_
        refine WL.done ?_
        refine W.ret ?_
        refine ⟨_, rfl, Fin.nil ?_⟩
        have ev_ : 0 + 8 + bitn (x / 256) = bitn x := by have := bitn_8 (x := x) (by omega); omega
        exact ⟨_, hS.ext, (hS.pick [] rfl).rows, News.of (hS.pick [] rfl).rows rfl, ⟨_, rfl, rfl, by rw [ev_]; exact hv⟩⟩
      · refine WL.done ?_
        refine W.condF rfl ?_
        refine W.skip ?_
        have hb8 := bitn_8lt (x := x) (by omega)
        refine W.seq ?_
        refine W.region ?_
        refine WL.move rfl rfl ?_
        refine WL.move rfl rfl ?_
        refine WL.conv (r := ((x : Nat) : Int)) Try.underlying102 Try.underlying5 rfl (wu8 (by omega) (by omega) (by omega)) rfl ?_
        refine WL.indexTab (i := x) bitn Try.underlying9 rfl rfl (by omega) (by omega) (by decide +kernel) rfl ?_
        refine WL.conv (r := ((bitn (x) : Nat) : Int)) Try.underlying5 Try.underlying3 rfl (wi64 (by omega) (by omega) (by omega)) rfl ?_
        refine WL.add (r := ((0 + bitn (x) : Nat) : Int)) rfl rfl (wi64 (by omega) (by omega) (by omega)) rfl ?_
        refine WL.assign rfl rfl ?_
        refine WL.done ?_
        refine W.ret ?_
        refine ⟨_, rfl, Fin.nil ?_⟩
        have ev_ : 0 + bitn (x) = bitn x := by omega
        exact ⟨_, hS.ext, (hS.pick [] rfl).rows, News.of (hS.pick [] rfl).rows rfl, ⟨_, rfl, rfl, by rw [ev_]; exact hv⟩⟩
def V_bitsLen (X : Int) (Q : Int → Prop) : Prop := (0 ≤ X ∧ X < 18446744073709551616) ∧ Q ((bitn X.toNat : Nat) : Int)
theorem ok_bitsLen {w : World} {Q : Int → Prop} {X : Int} (hv : V_bitsLen X Q) :
    Calls Try.prog 84 #[.int .u64 X] w fun e w' => ∃ v Qr, e = .returned v ∧ w.grownBy w' none ∧ Rows w.heap.size none w' Qr ∧ News w.heap.size Qr ∧ ∃ (r0 : Int), v = .int .i64 r0 ∧ Qr = [] ∧ Q r0 := by
  obtain ⟨⟨h0, hb⟩, hv⟩ := hv
  refine calls_swap ?_
  refine calls_of_W (vs := [.int .u64 X]) [2] Try.func84 rfl rfl rfl rfl ?_
  have hS := St.start w
  refine W.seq ?_
  refine W.region ?_
  refine WL.assign rfl rfl ?_
  refine WL.done ?_
  refine W.seq ?_
  refine W.condF rfl ?_
  refine W.skip ?_
  refine W.seq ?_
  refine W.region ?_
  refine WL.move rfl rfl ?_
  refine SL.call hS (ok_len64 (X := X) (Q := fun r => Q r) ⟨⟨h0, hb⟩, hv⟩) Try.func103 rfl Try.nm103 rfl rfl ?_
  rintro _ _ w2 ⟨r, rfl, rfl, hv⟩ hG hS
  change St _ _ _ _ [] at hS
  refine WL.assign rfl rfl ?_
  refine WL.done ?_
  refine W.ret ?_
  refine ⟨_, rfl, Fin.nil ?_⟩
  exact ⟨_, hS.ext, (hS.pick [] rfl).rows, News.of (hS.pick [] rfl).rows rfl, ⟨r, rfl, rfl, hv⟩⟩

end Go.Proofs.Ytmdigamgojfjdaa
set_option linter.unusedSimpArgs false
set_option linter.unusedVariables false
namespace Go.Proofs.Ytmdigamgojfjdaa
open Go.RowKit
def V_ppowmod (Fg : GFv) (p : List Int) (n : Int) (t : List Int) (Q : List Int × Int → Prop) : Prop :=
  V_deg Fg t (fun r12 => ((r12 < (0 : Int)) → (Q (([] : List Int), (7 : Int)))) ∧ (¬ (r12 < (0 : Int)) → ((((256 : Int) < r12) → (Q (([] : List Int), (8 : Int)))) ∧ (¬ ((256 : Int) < r12) → (((n < (0 : Int)) → (Q (([] : List Int), (6 : Int)))) ∧ (¬ (n < (0 : Int)) → (V_pdivmod Fg p t (fun q => match q with | (x17, x21, r25) => V_pdivmod Fg ([(1 : Int)] : List Int) t (fun q => match q with | (x30, x34, r38) => (0 ≤ n ∧ n < 18446744073709551616) ∧ (V_bitsLen n (fun r41 => (I64 (r41 - (1 : Int))) ∧ (∃ (I61 : List Int → Int → Int → Prop) (μ62 : List Int → Int → Int → Nat), I61 x34 r38 (r41 - (1 : Int)) ∧ ∀ (x55 : List Int) (z59 : Int) (z60 : Int), (I61 x55 z59 z60 → ((((0 : Int) ≤ z60) → (∃ J70 : List Int → Int → Prop, (V_pmul Fg ([x55, x55] : List (List Int)) (fun x75 => V_pdivmod Fg x75 t (fun q => match q with | (x80, x84, r88) => (0 ≤ z60) ∧ ((0 ≤ (ishr n z60) ∧ (ishr n z60) < 9223372036854775808 ∧ 0 ≤ (1 : Int) ∧ (1 : Int) < 9223372036854775808) ∧ ((((iand (ishr n z60) (1 : Int)) = (1 : Int)) → (V_pmul Fg ([x84, x21] : List (List Int)) (fun x96 => V_pdivmod Fg x96 t (fun q => match q with | (x101, x105, r109) => J70 x105 r109)))) ∧ (¬ ((iand (ishr n z60) (1 : Int)) = (1 : Int)) → J70 x84 r88)))))) ∧ ∀ (x65 : List Int) (z69 : Int), (J70 x65 z69 → ((I64 (z60 - (1 : Int))) ∧ (I61 x65 z69 (z60 - (1 : Int)) ∧ μ62 x65 z69 (z60 - (1 : Int)) < μ62 x55 z59 z60))))) ∧ (¬ ((0 : Int) ≤ z60) → (Q (x55, z59)))))))))))))))))
theorem ok_ppowmod {w : World} {Q : List Int × Int → Prop} {Fg : GFv} {p : List Int} {n : Int} {t : List Int} {ag : Addr} {Bg : Nat} (hgg : GFR Bg w ag Fg) {Bp : Nat} {Ap : Option Addr} {np kp : Nat} (hp : Rd Bp w 1 Ap np kp (is p)) {Bt : Nat} {At : Option Addr} {nt kt : Nat} (ht : Rd Bt w 1 At nt kt (is t)) (hv : V_ppowmod Fg p n t Q) :
    Calls Try.prog 53 #[.pointer (some ag), .slice Ap np kp, .int .i64 n, .slice At nt kt] w fun e w' => ∃ v Qr, e = .returned v ∧ w.grownBy w' none ∧ Rows w.heap.size none w' Qr ∧ News w.heap.size Qr ∧ ∃ (r0 : List Int) (r1 : Int) (Ar0 : Option Addr) (cr0 : Nat), v = .tuple #[.slice Ar0 r0.length cr0, .int .i64 r1] ∧ Qr = [.row 3 1 Ar0 r0.length cr0 (is r0)] ∧ Q (r0, r1) := by
  have hgg_ := hgg
  obtain ⟨Ag_mod, kg_mod, Ag_exp, kg_exp, Ag_log, kg_log, Ag_above, kg_above, hg_c, hg_mod, hg_exp, hg_log, hg_above⟩ := hgg_
  have hnp := hp.ilen
  subst hnp
  have hnt := ht.ilen
  subst hnt
  refine calls_swap ?_
  refine calls_of_W (vs := [.pointer (some ag), .slice Ap p.length kp, .int .i64 n, .slice At t.length kt]) [8, 9] Try.func53 rfl rfl rfl rfl ?_
  have hS := St.start w
  unfold V_ppowmod at hv
  refine W.seq ?_
  refine W.region ?_
  refine WL.assign rfl rfl ?_
  refine WL.assign rfl rfl ?_
  refine WL.done ?_
  refine W.seq ?_
  refine W.seq ?_
  refine W.region ?_
  refine WL.move rfl rfl ?_
  refine WL.move rfl rfl ?_
  refine SL.call hS (ok_deg (GFR.ext (GFR.norm hgg) hS.ext) (hS.ro ht) hv) Try.func25 rfl Try.nm25 rfl rfl ?_
  rintro _ _ w11 ⟨r12, rfl, rfl, hv⟩ hGw11 hS
  change St _ _ _ _ [] at hS
  refine WL.assign rfl rfl ?_
  refine WL.done ?_
  refine W.block ?_
  refine W.seq ?_
  refine W.region ?_
  refine WL.move rfl rfl ?_
  refine WL.lssD rfl rfl rfl ?_
  refine WL.assign rfl rfl ?_
  refine WL.done ?_
  refine W.cond2 rfl (fun c13 => ?_) (fun c13 => ?_)
  · have hv := hv.1 (of_decide_eq_true c13)
    refine W.seq ?_
    refine W.region ?_
    refine WL.assign rfl rfl ?_
    refine WL.assign rfl rfl ?_
    refine WL.done ?_
    refine W.ret ?_
    have hS := hS.nil (e := 3) (z := 1)
    refine ⟨_, rfl, Fin.nil ?_⟩
    exact ⟨_, hS.ext, (hS.pick [0] rfl).rows, News.of (hS.pick [0] rfl).rows rfl, ⟨([] : List Int), (7 : Int), none, 0, rfl, rfl, hv⟩⟩
  · have hv := hv.2 (of_decide_eq_false c13)
    refine W.seq ?_
    refine W.region ?_
    refine WL.move rfl rfl ?_
    refine WL.gtrD rfl rfl rfl ?_
    refine WL.assign rfl rfl ?_
    refine WL.done ?_
    refine W.cond2 rfl (fun c14 => ?_) (fun c14 => ?_)
    · have hv := hv.1 (of_decide_eq_true c14)
      refine W.seq ?_
      refine W.region ?_
      refine WL.assign rfl rfl ?_
      refine WL.assign rfl rfl ?_
      refine WL.done ?_
      refine W.ret ?_
      have hS := hS.nil (e := 3) (z := 1)
      refine ⟨_, rfl, Fin.nil ?_⟩
      exact ⟨_, hS.ext, (hS.pick [0] rfl).rows, News.of (hS.pick [0] rfl).rows rfl, ⟨([] : List Int), (8 : Int), none, 0, rfl, rfl, hv⟩⟩
    · have hv := hv.2 (of_decide_eq_false c14)
      refine W.seq ?_
      refine W.region ?_
      refine WL.move rfl rfl ?_
      refine WL.lssD rfl rfl rfl ?_
      refine WL.assign rfl rfl ?_
      refine WL.done ?_
      refine W.cond2 rfl (fun c15 => ?_) (fun c15 => ?_)
      · have hv := hv.1 (of_decide_eq_true c15)
        refine W.seq ?_
        refine W.region ?_
        refine WL.assign rfl rfl ?_
        refine WL.assign rfl rfl ?_
        refine WL.done ?_
        refine W.ret ?_
        have hS := hS.nil (e := 3) (z := 1)
        refine ⟨_, rfl, Fin.nil ?_⟩
        exact ⟨_, hS.ext, (hS.pick [0] rfl).rows, News.of (hS.pick [0] rfl).rows rfl, ⟨([] : List Int), (6 : Int), none, 0, rfl, rfl, hv⟩⟩
      · have hv := hv.2 (of_decide_eq_false c15)
        refine W.skip ?_
        refine W.seq ?_
        refine W.region ?_
        refine WL.move rfl rfl ?_
        refine WL.move rfl rfl ?_
        refine WL.move rfl rfl ?_
        refine SL.call hS (ok_pdivmod (GFR.ext (GFR.norm hgg) hS.ext) (hS.ro hp) (hS.ro ht) hv) Try.func37 rfl Try.nm37 rfl rfl ?_
        rintro _ _ w16 ⟨x17, x21, r25, A18, k19, A22, k23, rfl, rfl, hv⟩ hGw16 hS
        change St _ _ _ _ [.row 3 1 A18 x17.length k19 (is x17), .row 3 1 A22 x21.length k23 (is x21)] at hS
        refine WL.move rfl rfl ?_
        refine WL.extract rfl rfl rfl ?_
        refine WL.extract rfl rfl rfl ?_
        refine WL.extract rfl rfl rfl ?_
        refine WL.assign rfl rfl ?_
        refine WL.done ?_
        refine W.seq ?_
        refine W.region ?_
        refine WL.move rfl rfl ?_
        refine SL.lit1 (vs := is ([(1 : Int)] : List Int)) hS Try.underlying22 Try.el3 rfl rfl rfl rfl (is_one _) rfl ?_
        intro A26 w27 hS
        refine WL.move rfl rfl ?_
        refine SL.call hS (ok_pdivmod (GFR.ext (GFR.norm hgg) hS.ext) (hS.rd (i := 0) rfl) (hS.ro ht) hv) Try.func37 rfl Try.nm37 rfl rfl ?_
        rintro _ _ w29 ⟨x30, x34, r38, A31, k32, A35, k36, rfl, rfl, hv⟩ hGw29 hS
        change St _ _ _ _ [.row 3 1 A31 x30.length k32 (is x30), .row 3 1 A35 x34.length k36 (is x34), .row 3 1 A26 1 1 (is ([(1 : Int)] : List Int)), .row 3 1 A18 x17.length k19 (is x17), .row 3 1 A22 x21.length k23 (is x21)] at hS
        refine WL.move rfl rfl ?_
        refine WL.extract rfl rfl rfl ?_
        refine WL.extract rfl rfl rfl ?_
        refine WL.extract rfl rfl rfl ?_
        refine WL.assign rfl rfl ?_
        refine WL.assign rfl rfl ?_
        refine WL.assign rfl rfl ?_
        refine WL.done ?_
        refine W.seq ?_
        refine W.seq ?_
        refine W.region ?_
        refine WL.move rfl rfl ?_
        obtain ⟨o39, hv⟩ := hv
        refine WL.conv (r := n) Try.underlying3 Try.underlying83 rfl (wu64 o39.1 o39.2 rfl) rfl ?_
        refine SL.call hS (ok_bitsLen  hv) Try.func84 rfl Try.nm84 rfl rfl ?_
        rintro _ _ w40 ⟨r41, rfl, rfl, hv⟩ hGw40 hS
        change St _ _ _ _ [.row 3 1 A31 x30.length k32 (is x30), .row 3 1 A35 x34.length k36 (is x34), .row 3 1 A26 1 1 (is ([(1 : Int)] : List Int)), .row 3 1 A18 x17.length k19 (is x17), .row 3 1 A22 x21.length k23 (is x21)] at hS
        obtain ⟨o42, hv⟩ := hv
        refine WL.sub (r := (r41 - (1 : Int))) rfl rfl (wr o42) rfl ?_
        refine WL.assign rfl rfl ?_
        refine WL.done ?_
        refine W.block ?_
        obtain ⟨I61, μ62, hv, hk113⟩ := hv
        have hS := hS.pick [1, 0, 2, 3, 4] rfl
        change St _ _ _ _ [.row 3 1 A35 x34.length k36 (is x34), .row 3 1 A31 x30.length k32 (is x30), .row 3 1 A26 1 1 (is ([(1 : Int)] : List Int)), .row 3 1 A18 x17.length k19 (is x17), .row 3 1 A22 x21.length k23 (is x21)] at hS
        refine W.loop (σ := List Int × Int × Int × Option Addr × Nat) (fun q w1 => match q with | (x55, z59, z60, A56, k57) => I61 x55 z59 z60 ∧ St TT w none w1 [.row 3 1 A56 x55.length k57 (is x55), .row 3 1 A31 x30.length k32 (is x30), .row 3 1 A26 1 1 (is ([(1 : Int)] : List Int)), .row 3 1 A18 x17.length k19 (is x17), .row 3 1 A22 x21.length k23 (is x21)]) (fun q => match q with | (x55, z59, z60, A56, k57) => [(0, .pointer (some ag)), (1, .slice A22 x21.length k23), (2, .int .i64 n), (3, .slice At t.length kt), (8, .slice none 0 0), (9, .int .i64 (0 : Int)), (12, .slice A56 x55.length k57), (13, .int .i64 z59), (14, .int .i64 z60)]) (fun q => match q with | (x55, z59, z60, A56, k57) => μ62 x55 z59 z60) (x34, r38, (r41 - (1 : Int)), A35, k36) ⟨hv, hS⟩ ⟨rfl, rfl, rfl, rfl, rfl, rfl, rfl, rfl, rfl, trivial⟩ ?_
        rintro ⟨x55, z59, z60, A56, k57⟩ w63 ⟨hv, hS⟩
        have hv := hk113 x55 z59 z60 hv
        refine W.seq ?_
        refine W.seq ?_
        refine W.region ?_
        refine WL.move rfl rfl ?_
        refine WL.geqD rfl rfl rfl ?_
        refine WL.done ?_
        refine W.cond2 rfl (fun c64 => ?_) (fun c64 => ?_)
        · have hv := hv.1 (of_decide_eq_true c64)
          refine W.skip ?_
          refine W.seq ?_
          obtain ⟨J70, hv, hk112⟩ := hv
          refine W.cutN (σ := List Int × Int × Option Addr × Nat) (fun q w1 => match q with | (x65, z69, A66, k67) => J70 x65 z69 ∧ St TT w none w1 [.row 3 1 A66 x65.length k67 (is x65), .row 3 1 A56 x55.length k57 (is x55), .row 3 1 A31 x30.length k32 (is x30), .row 3 1 A26 1 1 (is ([(1 : Int)] : List Int)), .row 3 1 A18 x17.length k19 (is x17), .row 3 1 A22 x21.length k23 (is x21)]) (fun q => match q with | (x65, z69, A66, k67) => [(0, .pointer (some ag)), (1, .slice A22 x21.length k23), (2, .int .i64 n), (3, .slice At t.length kt), (8, .slice none 0 0), (9, .int .i64 (0 : Int)), (12, .slice A66 x65.length k67), (13, .int .i64 z69), (14, .int .i64 z60), (48, .bool (decide ((0 : Int) ≤ z60))), (67, .bool (decide ((iand (ishr n z60) (1 : Int)) = (1 : Int))))]) ?_ ?_
          · refine W.block ?_
            refine W.seq ?_
            refine W.region ?_
            refine WL.move rfl rfl ?_
            refine WL.move rfl rfl ?_
            refine WL.move rfl rfl ?_
            refine WL.move rfl rfl ?_
            refine SL.lit1 (vs := [.slice A56 x55.length k57, .slice A56 x55.length k57]) hS Try.underlying37 Try.el22 rfl rfl rfl rfl (by simp [Value.oneCell']) rfl ?_
            intro A71 w72 hS
            refine SL.call hS (ok_pmul (GFR.ext (GFR.norm hgg) hS.ext) (fs := ([x55, x55] : List (List Int))) ⟨_, _, (hS.rd (i := 0) rfl), ⟨⟨_, _, _, rfl, (Rd.is_m (hS.rd (i := 1) rfl))⟩, ⟨_, _, _, rfl, (Rd.is_m (hS.rd (i := 1) rfl))⟩, trivial⟩⟩ hv) Try.func32 rfl Try.nm32 rfl rfl ?_
            rintro _ _ w74 ⟨x75, A76, k77, rfl, rfl, hv⟩ hGw74 hS
            change St _ _ _ _ [.row 3 1 A76 x75.length k77 (is x75), .row 22 1 A71 2 2 [.slice A56 x55.length k57, .slice A56 x55.length k57], .row 3 1 A56 x55.length k57 (is x55), .row 3 1 A31 x30.length k32 (is x30), .row 3 1 A26 1 1 (is ([(1 : Int)] : List Int)), .row 3 1 A18 x17.length k19 (is x17), .row 3 1 A22 x21.length k23 (is x21)] at hS
            refine WL.move rfl rfl ?_
            refine SL.call hS (ok_pdivmod (GFR.ext (GFR.norm hgg) hS.ext) (hS.rd (i := 0) rfl) (hS.ro ht) hv) Try.func37 rfl Try.nm37 rfl rfl ?_
            rintro _ _ w79 ⟨x80, x84, r88, A81, k82, A85, k86, rfl, rfl, hv⟩ hGw79 hS
            change St _ _ _ _ [.row 3 1 A81 x80.length k82 (is x80), .row 3 1 A85 x84.length k86 (is x84), .row 3 1 A76 x75.length k77 (is x75), .row 22 1 A71 2 2 [.slice A56 x55.length k57, .slice A56 x55.length k57], .row 3 1 A56 x55.length k57 (is x55), .row 3 1 A31 x30.length k32 (is x30), .row 3 1 A26 1 1 (is ([(1 : Int)] : List Int)), .row 3 1 A18 x17.length k19 (is x17), .row 3 1 A22 x21.length k23 (is x21)] at hS
            refine WL.move rfl rfl ?_
            refine WL.extract rfl rfl rfl ?_
            refine WL.extract rfl rfl rfl ?_
            refine WL.extract rfl rfl rfl ?_
            refine WL.assign rfl rfl ?_
            refine WL.assign rfl rfl ?_
            refine WL.done ?_
            refine W.seq ?_
            refine W.region ?_
            refine WL.move rfl rfl ?_
            refine WL.move rfl rfl ?_
            obtain ⟨o89, hv⟩ := hv
            refine WL.shr (r := (ishr n z60)) rfl rfl o89 rfl rfl ?_
            obtain ⟨o90, hv⟩ := hv
            refine WL.bits (r := (iand (ishr n z60) (1 : Int))) rfl rfl (by decide) (run_iand o90) rfl ?_
            refine WL.eqlD rfl rfl rfl ?_
            refine WL.done ?_
            refine W.cond2 rfl (fun c91 => ?_) (fun c91 => ?_)
            · have hv := hv.1 (of_decide_eq_true c91)
              refine W.region ?_
              refine WL.move rfl rfl ?_
              refine WL.move rfl rfl ?_
              refine WL.move rfl rfl ?_
              refine WL.move rfl rfl ?_
              refine SL.lit1 (vs := [.slice A85 x84.length k86, .slice A22 x21.length k23]) hS Try.underlying37 Try.el22 rfl rfl rfl rfl (by simp [Value.oneCell']) rfl ?_
              intro A92 w93 hS
              refine SL.call hS (ok_pmul (GFR.ext (GFR.norm hgg) hS.ext) (fs := ([x84, x21] : List (List Int))) ⟨_, _, (hS.rd (i := 0) rfl), ⟨⟨_, _, _, rfl, (Rd.is_m (hS.rd (i := 2) rfl))⟩, ⟨_, _, _, rfl, (Rd.is_m (hS.rd (i := 9) rfl))⟩, trivial⟩⟩ hv) Try.func32 rfl Try.nm32 rfl rfl ?_
              rintro _ _ w95 ⟨x96, A97, k98, rfl, rfl, hv⟩ hGw95 hS
              change St _ _ _ _ [.row 3 1 A97 x96.length k98 (is x96), .row 22 1 A92 2 2 [.slice A85 x84.length k86, .slice A22 x21.length k23], .row 3 1 A81 x80.length k82 (is x80), .row 3 1 A85 x84.length k86 (is x84), .row 3 1 A76 x75.length k77 (is x75), .row 22 1 A71 2 2 [.slice A56 x55.length k57, .slice A56 x55.length k57], .row 3 1 A56 x55.length k57 (is x55), .row 3 1 A31 x30.length k32 (is x30), .row 3 1 A26 1 1 (is ([(1 : Int)] : List Int)), .row 3 1 A18 x17.length k19 (is x17), .row 3 1 A22 x21.length k23 (is x21)] at hS
              refine WL.move rfl rfl ?_
              refine SL.call hS (ok_pdivmod (GFR.ext (GFR.norm hgg) hS.ext) (hS.rd (i := 0) rfl) (hS.ro ht) hv) Try.func37 rfl Try.nm37 rfl rfl ?_
              rintro _ _ w100 ⟨x101, x105, r109, A102, k103, A106, k107, rfl, rfl, hv⟩ hGw100 hS
              change St _ _ _ _ [.row 3 1 A102 x101.length k103 (is x101), .row 3 1 A106 x105.length k107 (is x105), .row 3 1 A97 x96.length k98 (is x96), .row 22 1 A92 2 2 [.slice A85 x84.length k86, .slice A22 x21.length k23], .row 3 1 A81 x80.length k82 (is x80), .row 3 1 A85 x84.length k86 (is x84), .row 3 1 A76 x75.length k77 (is x75), .row 22 1 A71 2 2 [.slice A56 x55.length k57, .slice A56 x55.length k57], .row 3 1 A56 x55.length k57 (is x55), .row 3 1 A31 x30.length k32 (is x30), .row 3 1 A26 1 1 (is ([(1 : Int)] : List Int)), .row 3 1 A18 x17.length k19 (is x17), .row 3 1 A22 x21.length k23 (is x21)] at hS
              refine WL.move rfl rfl ?_
              refine WL.extract rfl rfl rfl ?_
              refine WL.extract rfl rfl rfl ?_
              refine WL.extract rfl rfl rfl ?_
              refine WL.assign rfl rfl ?_
              refine WL.assign rfl rfl ?_
              refine WL.done ?_
              have hS := hS.pick [1, 8, 9, 10, 11, 12] rfl
              change St _ _ _ _ [.row 3 1 A106 x105.length k107 (is x105), .row 3 1 A56 x55.length k57 (is x55), .row 3 1 A31 x30.length k32 (is x30), .row 3 1 A26 1 1 (is ([(1 : Int)] : List Int)), .row 3 1 A18 x17.length k19 (is x17), .row 3 1 A22 x21.length k23 (is x21)] at hS
              exact ⟨(x105, r109, A106, k107), ⟨rfl, rfl, rfl, rfl, rfl, rfl, rfl, rfl, rfl, rfl, rfl, trivial⟩, rfl, hv, hS⟩
            · have hv := hv.2 (of_decide_eq_false c91)
              refine W.skip ?_
              have hS := hS.pick [1, 4, 5, 6, 7, 8] rfl
              change St _ _ _ _ [.row 3 1 A85 x84.length k86 (is x84), .row 3 1 A56 x55.length k57 (is x55), .row 3 1 A31 x30.length k32 (is x30), .row 3 1 A26 1 1 (is ([(1 : Int)] : List Int)), .row 3 1 A18 x17.length k19 (is x17), .row 3 1 A22 x21.length k23 (is x21)] at hS
              exact ⟨(x84, r88, A85, k86), ⟨rfl, rfl, rfl, rfl, rfl, rfl, rfl, rfl, rfl, rfl, rfl, trivial⟩, rfl, hv, hS⟩
          · rintro ⟨x65, z69, A66, k67⟩ w110 ⟨hv, hS⟩
            have hv := hk112 x65 z69 hv
            refine W.region ?_
            refine WL.move rfl rfl ?_
            obtain ⟨o111, hv⟩ := hv
            refine WL.sub (r := (z60 - (1 : Int))) rfl rfl (wr o111) rfl ?_
            refine WL.assign rfl rfl ?_
            refine WL.done ?_
            have hS := hS.pick [0, 2, 3, 4, 5] rfl
            change St _ _ _ _ [.row 3 1 A66 x65.length k67 (is x65), .row 3 1 A31 x30.length k32 (is x30), .row 3 1 A26 1 1 (is ([(1 : Int)] : List Int)), .row 3 1 A18 x17.length k19 (is x17), .row 3 1 A22 x21.length k23 (is x21)] at hS
            exact ⟨(x65, z69, (z60 - (1 : Int)), A66, k67), ⟨rfl, rfl, rfl, rfl, rfl, rfl, rfl, rfl, rfl, trivial⟩, hv.2, rfl, hv.1, hS⟩
        · have hv := hv.2 (of_decide_eq_false c64)
          refine W.exit ?_
          refine W.seq ?_
          refine W.region ?_
          refine WL.move rfl rfl ?_
          refine WL.move rfl rfl ?_
          refine WL.assign rfl rfl ?_
          refine WL.assign rfl rfl ?_
          refine WL.done ?_
          refine W.ret ?_
          refine ⟨_, rfl, Fin.nil ?_⟩
          exact ⟨_, hS.ext, (hS.pick [0] rfl).rows, News.of (hS.pick [0] rfl).rows rfl, ⟨x55, z59, A56, k57, rfl, rfl, hv⟩⟩
end Go.Proofs.Ytmdigamgojfjdaa
set_option linter.unusedSimpArgs false
set_option linter.unusedVariables false
namespace Go.Proofs.Ytmdigamgojfjdaa
open Go.RowKit
def V_PolyPowers (Pf : Int) (Mf : Int) (mf : List Int) (vv0 : List Int) (vv1 : List Int) (n : Int) (Q : Bool → Prop) : Prop :=
  V_alive  (fun r16 => (((!r16) = true) → Q false) ∧ ((!r16) = false → (V_made Pf Mf mf (fun q => match q with | none => Q true | some F21 => (((24 : Int) < ((vv0.length : Nat) : Int)) → Q true) ∧ (¬ ((24 : Int) < ((vv0.length : Nat) : Int)) → ((((300 : Int) < ((vv1.length : Nat) : Int)) → Q true) ∧ (¬ ((300 : Int) < ((vv1.length : Nat) : Int)) → (V_ppowmod F21 vv0 n vv1 (fun q => match q with | (x44, r48) => V_rdeg Pf Mf mf vv1 (fun r50 => ((r50 < (0 : Int)) → (((r48 = (7 : Int)) → (Q (decide (((x44.length : Nat) : Int) = (0 : Int))))) ∧ (¬ (r48 = (7 : Int)) → Q false))) ∧ (¬ (r50 < (0 : Int)) → ((((256 : Int) < r50) → (((r48 = (8 : Int)) → (Q (decide (((x44.length : Nat) : Int) = (0 : Int))))) ∧ (¬ (r48 = (8 : Int)) → Q false))) ∧ (¬ ((256 : Int) < r50) → (((n < (0 : Int)) → (((r48 = (6 : Int)) → (Q (decide (((x44.length : Nat) : Int) = (0 : Int))))) ∧ (¬ (r48 = (6 : Int)) → Q false))) ∧ (¬ (n < (0 : Int)) → ((((24 : Int) < r50) → Q true) ∧ (¬ ((24 : Int) < r50) → (((r48 = (0 : Int)) → (V_rpowmod Pf Mf mf vv0 n vv1 (fun x60 => V_lsame x44 x60 (fun r65 => Q r65)))) ∧ (¬ (r48 = (0 : Int)) → Q false)))))))))))))))))))
theorem ok_PolyPowers {w : World} {Q : Bool → Prop} {Pf : Int} {Mf : Int} {mf : List Int} {vv0 : List Int} {vv1 : List Int} {n : Int} {Bf : Nat} {Af : Option Addr} {nf kf : Nat} (hf : Rd Bf w 1 Af nf kf (is mf)) {Bvv0 : Nat} {Avv0 : Option Addr} {nvv0 kvv0 : Nat} (hvv0 : Rd Bvv0 w 1 Avv0 nvv0 kvv0 (is vv0)) {Bvv1 : Nat} {Avv1 : Option Addr} {nvv1 kvv1 : Nat} (hvv1 : Rd Bvv1 w 1 Avv1 nvv1 kvv1 (is vv1)) (hv : V_PolyPowers Pf Mf mf vv0 vv1 n Q) :
    Calls Try.prog 15 #[.agg #[.int .i64 Pf, .int .i64 Mf, .slice Af nf kf], .agg #[.slice Avv0 nvv0 kvv0, .slice Avv1 nvv1 kvv1], .int .i64 n] w fun e w' => ∃ v Qr, e = .returned v ∧ w.grownBy w' none ∧ Rows w.heap.size none w' Qr ∧ News w.heap.size Qr ∧ ∃ (r0 : Bool), v = .bool r0 ∧ Qr = [] ∧ Q r0 := by
  have hnf := hf.ilen
  subst hnf
  have hnvv0 := hvv0.ilen
  subst hnvv0
  have hnvv1 := hvv1.ilen
  subst hnvv1
  refine calls_swap ?_
  refine calls_of_W (vs := [.agg #[.int .i64 Pf, .int .i64 Mf, .slice Af mf.length kf], .agg #[.slice Avv0 vv0.length kvv0, .slice Avv1 vv1.length kvv1], .int .i64 n]) [6] Try.func15 rfl rfl rfl rfl ?_
  have hS := St.start w
  unfold V_PolyPowers at hv
  refine W.seq ?_
  refine W.region ?_
  refine SL.box (z := 3) (cs := [.int .i64 Pf, .int .i64 Mf, .slice Af mf.length kf]) hS rfl rfl rfl rfl ?_
  intro g11 w12 hS
  refine SL.box (z := 2) (cs := [.slice Avv0 vv0.length kvv0, .slice Avv1 vv1.length kvv1]) hS rfl rfl rfl rfl ?_
  intro g13 w14 hS
  refine WL.assign rfl rfl ?_
  refine WL.done ?_
  refine W.seq ?_
  refine W.seq ?_
  refine W.region ?_
  refine SL.call hS (ok_alive  hv) Try.func20 rfl Try.nm20 rfl rfl ?_
  rintro _ _ w15 ⟨r16, rfl, rfl, hv⟩ hGw15 hS
  change St _ _ _ _ [.row 54 2 (some ⟨g13, 0, none⟩) 1 1 [.slice Avv0 vv0.length kvv0, .slice Avv1 vv1.length kvv1], .row 24 3 (some ⟨g11, 0, none⟩) 1 1 [.int .i64 Pf, .int .i64 Mf, .slice Af mf.length kf]] at hS
  refine WL.not rfl rfl ?_
  refine WL.done ?_
  refine W.cond2 rfl (fun c17 => ?_) (fun c17 => ?_)
  · have hv := hv.1 (c17)
    refine W.seq ?_
    refine W.region ?_
    refine WL.assign rfl rfl ?_
    refine WL.done ?_
    refine W.ret ?_
    refine ⟨_, rfl, Fin.nil ?_⟩
    exact ⟨_, hS.ext, (hS.pick [] rfl).rows, News.of (hS.pick [] rfl).rows rfl, ⟨false, rfl, rfl, hv⟩⟩
  · have hv := hv.2 (c17)
    refine W.skip ?_
    refine W.seq ?_
    refine W.region ?_
    refine WL.loadV (cs := [.int .i64 Pf, .int .i64 Mf, .slice Af mf.length kf]) Try.el24 Try.agg24 rfl rfl (Own.vcells (hS.own (i := 1) rfl)) rfl ?_
    refine SL.call hS (ok_made (hS.ro hf) hv) Try.func21 rfl Try.nm21 rfl rfl ?_
    rintro _ _ w19 ⟨o, hv, hK⟩ hGw19 hS
    cases o with
    | none =>
      obtain ⟨rfl, rfl⟩ := hK
      change St _ _ _ _ [.row 54 2 (some ⟨g13, 0, none⟩) 1 1 [.slice Avv0 vv0.length kvv0, .slice Avv1 vv1.length kvv1], .row 24 3 (some ⟨g11, 0, none⟩) 1 1 [.int .i64 Pf, .int .i64 Mf, .slice Af mf.length kf]] at hS
      refine WL.assign rfl rfl ?_
      refine WL.done ?_
      refine W.seq ?_
      have hS0 := hS
      refine W.drawX 6 (fun _ => false) (fun _ => none) [⟨[], [4], true⟩, ⟨[0], [], false⟩, ⟨[], [4], true⟩, ⟨[2], [], false⟩, ⟨[1], [], true⟩, ⟨[3], [], true⟩] [[(4, .pointer (some ⟨g13, 0, none⟩))], [], [(4, .pointer (some ⟨g13, 0, none⟩))], [], [], []] (fun iQ => [fun v _ => v = .pointer (some ⟨g13, 0, none⟩), fun v _ => v = .slice Avv0 vv0.length kvv0, fun v _ => v = .pointer (some ((⟨g13, 0, none⟩ : Addr).add 1)), fun v _ => v = .slice Avv1 vv1.length kvv1, fun v _ => v = .slice Avv0 vv0.length kvv0, fun v _ => v = .slice Avv1 vv1.length kvv1].getD iQ (fun _ _ => True)) Try.mixed (by kernel_rfl) ?_ (by kernel_rfl) ?_ ?_
      · refine Vs_monoT _ ?_
        intro VQ hVQ vQ wQ1 wQ2 hQ1 hQ2
        simp only [List.mem_cons, List.not_mem_nil, or_false] at hVQ
        rcases hVQ with rfl | rfl | rfl | rfl | rfl | rfl
        · exact hQ1
        · exact hQ1
        · exact hQ1
        · exact hQ1
        · exact hQ1
        · exact hQ1
      · refine ⟨⟨rfl, ⟨rfl, trivial⟩, ?_⟩, ⟨rfl, trivial, ?_⟩, ⟨rfl, ⟨rfl, trivial⟩, ?_⟩, ⟨rfl, trivial, ?_⟩, ⟨rfl, trivial, ?_⟩, ⟨rfl, trivial, ?_⟩, trivial⟩
        · intro w27 hE
          intro RR
          refine WL.indexP 0 Try.arr54 rfl rfl rfl (by decide) rfl rfl ?_
          exact WL.done ⟨_, rfl, rfl, rfl, (fun h => absurd h (by decide)), (fun j h => by cases h)⟩
        · intro w28 hE
          have hE := hE rfl
          have hS := hS.grow hE
          rintro _ rfl
          intro RR
          refine WL.load Try.underlying22 rfl rfl (Own.vcells (hS.own (i := 0) rfl) 0 _ rfl) rfl ?_
          exact WL.done ⟨_, rfl, ext_refl _, rfl, (fun h => absurd h (by decide)), (fun j h => by cases h)⟩
        · intro w29 hE
          intro RR
          refine WL.indexP 1 Try.arr54 rfl rfl rfl (by decide) rfl rfl ?_
          exact WL.done ⟨_, rfl, rfl, rfl, (fun h => absurd h (by decide)), (fun j h => by cases h)⟩
        · intro w30 hE
          have hE := hE rfl
          have hS := hS.grow hE
          rintro _ rfl
          intro RR
          refine WL.load Try.underlying22 rfl rfl (Own.vcells (hS.own (i := 0) rfl) 1 _ rfl) rfl ?_
          exact WL.done ⟨_, rfl, ext_refl _, rfl, (fun h => absurd h (by decide)), (fun j h => by cases h)⟩
        · intro w31 hE
          rintro _ rfl
          intro RR
          refine WL.assign rfl rfl ?_
          exact WL.done ⟨_, rfl, rfl, rfl, (fun h => absurd h (by decide)), (fun j h => by cases h)⟩
        · intro w32 hE
          rintro _ rfl
          intro RR
          refine WL.assign rfl rfl ?_
          exact WL.done ⟨_, rfl, rfl, rfl, (fun h => absurd h (by decide)), (fun j h => by cases h)⟩
      · intro vals w33 hT hVs hAp hCp
        have hS := hS.grow hT
        have hv0 : vals 0 = _ := hVs 0 (by decide)
        have hv1 : vals 1 = _ := hVs 1 (by decide)
        have hv2 : vals 2 = _ := hVs 2 (by decide)
        have hv3 : vals 3 = _ := hVs 3 (by decide)
        have hv4 : vals 4 = _ := hVs 4 (by decide)
        have hv5 : vals 5 = _ := hVs 5 (by decide)
        rw [show (List.filterMap (fun i => Option.map (fun t => (t, vals i)) (dstAt _ i)) (List.range _)) = [(17, .pointer (some ⟨g13, 0, none⟩)), (18, .slice Avv0 vv0.length kvv0), (19, .pointer (some ((⟨g13, 0, none⟩ : Addr).add 1))), (20, .slice Avv1 vv1.length kvv1), (8, .slice Avv0 vv0.length kvv0), (9, .slice Avv1 vv1.length kvv1)] from by
          show [(17, vals 0), (18, vals 1), (19, vals 2), (20, vals 3), (8, vals 4), (9, vals 5)] = _
          rw [hv0, hv1, hv2, hv3, hv4, hv5]]
        refine WA.done (by decide +kernel) ?_
        refine W.seq ?_
        refine W.seq ?_
        refine W.region ?_
        refine WL.move rfl rfl ?_
        refine WL.eqlPn Try.underlying26 rfl rfl rfl rfl ?_
        refine WL.move rfl rfl ?_
        refine WL.pass rfl rfl rfl ?_
        refine WL.pass rfl rfl rfl ?_
        refine WL.pass rfl rfl rfl ?_
        refine WL.pick rfl rfl rfl ?_
        refine WL.move rfl rfl ?_
        refine WL.pass rfl rfl rfl ?_
        refine WL.pass rfl rfl rfl ?_
        refine WL.pass rfl rfl rfl ?_
        refine WL.pick rfl rfl rfl ?_
        refine WL.done ?_
        refine W.condT rfl ?_
        refine W.seq ?_
        refine W.region ?_
        refine WL.assign rfl rfl ?_
        refine WL.done ?_
        refine W.ret ?_
        refine ⟨_, rfl, Fin.nil ?_⟩
        exact ⟨_, hS.ext, (hS.pick [] rfl).rows, News.of (hS.pick [] rfl).rows rfl, ⟨true, rfl, rfl, hv⟩⟩
    | some F21 =>
      obtain ⟨ad22, lo23, hi24, rfl, rfl⟩ := hK
      change St _ _ _ _ [.ch lo23 hi24 (fun wz => GFX lo23 hi24 wz ad22 F21), .row 54 2 (some ⟨g13, 0, none⟩) 1 1 [.slice Avv0 vv0.length kvv0, .slice Avv1 vv1.length kvv1], .row 24 3 (some ⟨g11, 0, none⟩) 1 1 [.int .i64 Pf, .int .i64 Mf, .slice Af mf.length kf]] at hS
      refine WL.assign rfl rfl ?_
      refine WL.done ?_
      refine W.seq ?_
      have hS0 := hS
      refine W.drawX 6 (fun _ => false) (fun _ => none) [⟨[], [4], true⟩, ⟨[0], [], false⟩, ⟨[], [4], true⟩, ⟨[2], [], false⟩, ⟨[1], [], true⟩, ⟨[3], [], true⟩] [[(4, .pointer (some ⟨g13, 0, none⟩))], [], [(4, .pointer (some ⟨g13, 0, none⟩))], [], [], []] (fun iQ => [fun v _ => v = .pointer (some ⟨g13, 0, none⟩), fun v _ => v = .slice Avv0 vv0.length kvv0, fun v _ => v = .pointer (some ((⟨g13, 0, none⟩ : Addr).add 1)), fun v _ => v = .slice Avv1 vv1.length kvv1, fun v _ => v = .slice Avv0 vv0.length kvv0, fun v _ => v = .slice Avv1 vv1.length kvv1].getD iQ (fun _ _ => True)) Try.mixed (by kernel_rfl) ?_ (by kernel_rfl) ?_ ?_
      · refine Vs_monoT _ ?_
        intro VQ hVQ vQ wQ1 wQ2 hQ1 hQ2
        simp only [List.mem_cons, List.not_mem_nil, or_false] at hVQ
        rcases hVQ with rfl | rfl | rfl | rfl | rfl | rfl
        · exact hQ1
        · exact hQ1
        · exact hQ1
        · exact hQ1
        · exact hQ1
        · exact hQ1
      · refine ⟨⟨rfl, ⟨rfl, trivial⟩, ?_⟩, ⟨rfl, trivial, ?_⟩, ⟨rfl, ⟨rfl, trivial⟩, ?_⟩, ⟨rfl, trivial, ?_⟩, ⟨rfl, trivial, ?_⟩, ⟨rfl, trivial, ?_⟩, trivial⟩
        · intro w34 hE
          intro RR
          refine WL.indexP 0 Try.arr54 rfl rfl rfl (by decide) rfl rfl ?_
          exact WL.done ⟨_, rfl, rfl, rfl, (fun h => absurd h (by decide)), (fun j h => by cases h)⟩
        · intro w35 hE
          have hE := hE rfl
          have hS := hS.grow hE
          rintro _ rfl
          intro RR
          refine WL.load Try.underlying22 rfl rfl (Own.vcells (hS.own (i := 1) rfl) 0 _ rfl) rfl ?_
          exact WL.done ⟨_, rfl, ext_refl _, rfl, (fun h => absurd h (by decide)), (fun j h => by cases h)⟩
        · intro w36 hE
          intro RR
          refine WL.indexP 1 Try.arr54 rfl rfl rfl (by decide) rfl rfl ?_
          exact WL.done ⟨_, rfl, rfl, rfl, (fun h => absurd h (by decide)), (fun j h => by cases h)⟩
        · intro w37 hE
          have hE := hE rfl
          have hS := hS.grow hE
          rintro _ rfl
          intro RR
          refine WL.load Try.underlying22 rfl rfl (Own.vcells (hS.own (i := 1) rfl) 1 _ rfl) rfl ?_
          exact WL.done ⟨_, rfl, ext_refl _, rfl, (fun h => absurd h (by decide)), (fun j h => by cases h)⟩
        · intro w38 hE
          rintro _ rfl
          intro RR
          refine WL.assign rfl rfl ?_
          exact WL.done ⟨_, rfl, rfl, rfl, (fun h => absurd h (by decide)), (fun j h => by cases h)⟩
        · intro w39 hE
          rintro _ rfl
          intro RR
          refine WL.assign rfl rfl ?_
          exact WL.done ⟨_, rfl, rfl, rfl, (fun h => absurd h (by decide)), (fun j h => by cases h)⟩
      · intro vals w40 hT hVs hAp hCp
        have hS := hS.grow hT
        have hv0 : vals 0 = _ := hVs 0 (by decide)
        have hv1 : vals 1 = _ := hVs 1 (by decide)
        have hv2 : vals 2 = _ := hVs 2 (by decide)
        have hv3 : vals 3 = _ := hVs 3 (by decide)
        have hv4 : vals 4 = _ := hVs 4 (by decide)
        have hv5 : vals 5 = _ := hVs 5 (by decide)
        rw [show (List.filterMap (fun i => Option.map (fun t => (t, vals i)) (dstAt _ i)) (List.range _)) = [(17, .pointer (some ⟨g13, 0, none⟩)), (18, .slice Avv0 vv0.length kvv0), (19, .pointer (some ((⟨g13, 0, none⟩ : Addr).add 1))), (20, .slice Avv1 vv1.length kvv1), (8, .slice Avv0 vv0.length kvv0), (9, .slice Avv1 vv1.length kvv1)] from by
          show [(17, vals 0), (18, vals 1), (19, vals 2), (20, vals 3), (8, vals 4), (9, vals 5)] = _
          rw [hv0, hv1, hv2, hv3, hv4, hv5]]
        refine WA.done (by decide +kernel) ?_
        refine W.seq ?_
        refine W.seq ?_
        refine W.region ?_
        refine WL.move rfl rfl ?_
        refine WL.eqlPn Try.underlying26 rfl rfl rfl rfl ?_
        refine WL.move rfl rfl ?_
        refine WL.take rfl ?_
        refine WL.move rfl rfl ?_
        refine WL.take rfl ?_
        refine WL.len Try.underlying22 rfl rfl ?_
        refine WL.take rfl ?_
        refine WL.gtrD rfl rfl rfl ?_
        refine WL.pick rfl rfl rfl ?_
        refine WL.move rfl rfl ?_
        by_cases g41 : (24 : Int) < ((vv0.length : Nat) : Int)
        · have hv := hv.1 g41
          rw [decide_eq_true g41]
          refine WL.pass rfl rfl rfl ?_
          refine WL.pass rfl rfl rfl ?_
          refine WL.pass rfl rfl rfl ?_
          refine WL.pick rfl rfl rfl ?_
          refine WL.done ?_
          refine W.condT rfl ?_
          refine W.seq ?_
          refine W.region ?_
          refine WL.assign rfl rfl ?_
          refine WL.done ?_
          refine W.ret ?_
          refine ⟨_, rfl, Fin.nil ?_⟩
          exact ⟨_, hS.ext, (hS.pick [] rfl).rows, News.of (hS.pick [] rfl).rows rfl, ⟨true, rfl, rfl, hv⟩⟩
        · have hv := hv.2 g41
          rw [decide_eq_false g41]
          refine WL.take rfl ?_
          refine WL.move rfl rfl ?_
          refine WL.take rfl ?_
          refine WL.len Try.underlying22 rfl rfl ?_
          refine WL.take rfl ?_
          refine WL.gtrD rfl rfl rfl ?_
          refine WL.pick rfl rfl rfl ?_
          refine WL.done ?_
          refine W.cond2 rfl (fun c42 => ?_) (fun c42 => ?_)
          · have hv := hv.1 (of_decide_eq_true c42)
            refine W.seq ?_
            refine W.region ?_
            refine WL.assign rfl rfl ?_
            refine WL.done ?_
            refine W.ret ?_
            refine ⟨_, rfl, Fin.nil ?_⟩
            exact ⟨_, hS.ext, (hS.pick [] rfl).rows, News.of (hS.pick [] rfl).rows rfl, ⟨true, rfl, rfl, hv⟩⟩
          · have hv := hv.2 (of_decide_eq_false c42)
            refine W.skip ?_
            refine W.seq ?_
            refine W.region ?_
            refine WL.move rfl rfl ?_
            refine WL.move rfl rfl ?_
            refine WL.move rfl rfl ?_
            refine WL.move rfl rfl ?_
            refine SL.call hS (ok_ppowmod (GFX.gfr (hS.chunk (i := 0) rfl)) (hS.ro hvv0) (hS.ro hvv1) hv) Try.func53 rfl Try.nm53 rfl rfl ?_
            rintro _ _ w43 ⟨x44, r48, A45, k46, rfl, rfl, hv⟩ hGw43 hS
            change St _ _ _ _ [.row 3 1 A45 x44.length k46 (is x44), .ch lo23 hi24 (fun wz => GFX lo23 hi24 wz ad22 F21), .row 54 2 (some ⟨g13, 0, none⟩) 1 1 [.slice Avv0 vv0.length kvv0, .slice Avv1 vv1.length kvv1], .row 24 3 (some ⟨g11, 0, none⟩) 1 1 [.int .i64 Pf, .int .i64 Mf, .slice Af mf.length kf]] at hS
            refine WL.move rfl rfl ?_
            refine WL.extract rfl rfl rfl ?_
            refine WL.extract rfl rfl rfl ?_
            refine WL.assign rfl rfl ?_
            refine WL.assign rfl rfl ?_
            refine WL.done ?_
            refine W.seq ?_
            refine W.region ?_
            refine WL.loadV (cs := [.int .i64 Pf, .int .i64 Mf, .slice Af mf.length kf]) Try.el24 Try.agg24 rfl rfl (Own.vcells (hS.own (i := 3) rfl)) rfl ?_
            refine WL.move rfl rfl ?_
            refine SL.call hS (ok_rdeg (hS.ro hf) (hS.ro hvv1) hv) Try.func38 rfl Try.nm38 rfl rfl ?_
            rintro _ _ w49 ⟨r50, rfl, rfl, hv⟩ hGw49 hS
            change St _ _ _ _ [.row 3 1 A45 x44.length k46 (is x44), .ch lo23 hi24 (fun wz => GFX lo23 hi24 wz ad22 F21), .row 54 2 (some ⟨g13, 0, none⟩) 1 1 [.slice Avv0 vv0.length kvv0, .slice Avv1 vv1.length kvv1], .row 24 3 (some ⟨g11, 0, none⟩) 1 1 [.int .i64 Pf, .int .i64 Mf, .slice Af mf.length kf]] at hS
            refine WL.assign rfl rfl ?_
            refine WL.done ?_
            refine W.seq ?_
            refine W.block ?_
            refine W.seq ?_
            refine W.region ?_
            refine WL.move rfl rfl ?_
            refine WL.lssD rfl rfl rfl ?_
            refine WL.assign rfl rfl ?_
            refine WL.done ?_
            refine W.cond2 rfl (fun c51 => ?_) (fun c51 => ?_)
            · have hv := hv.1 (of_decide_eq_true c51)
              refine W.seq ?_
              refine W.region ?_
              refine WL.move rfl rfl ?_
              refine WL.eqlD rfl rfl rfl ?_
              refine WL.move rfl rfl ?_
              by_cases g52 : r48 = (7 : Int)
              · have hv := hv.1 g52
                rw [decide_eq_true g52]
                refine WL.take rfl ?_
                refine WL.move rfl rfl ?_
                refine WL.take rfl ?_
                refine WL.len Try.underlying22 rfl rfl ?_
                refine WL.take rfl ?_
                refine WL.eqlD rfl rfl rfl ?_
                refine WL.pick rfl rfl rfl ?_
                refine WL.assign rfl rfl ?_
                refine WL.done ?_
                refine W.ret ?_
                refine ⟨_, rfl, Fin.nil ?_⟩
                exact ⟨_, hS.ext, (hS.pick [] rfl).rows, News.of (hS.pick [] rfl).rows rfl, ⟨(decide (((x44.length : Nat) : Int) = (0 : Int))), rfl, rfl, hv⟩⟩
              · have hv := hv.2 g52
                rw [decide_eq_false g52]
                refine WL.pass rfl rfl rfl ?_
                refine WL.pass rfl rfl rfl ?_
                refine WL.pass rfl rfl rfl ?_
                refine WL.pick rfl rfl rfl ?_
                refine WL.assign rfl rfl ?_
                refine WL.done ?_
                refine W.ret ?_
                refine ⟨_, rfl, Fin.nil ?_⟩
                exact ⟨_, hS.ext, (hS.pick [] rfl).rows, News.of (hS.pick [] rfl).rows rfl, ⟨false, rfl, rfl, hv⟩⟩
            · have hv := hv.2 (of_decide_eq_false c51)
              refine W.seq ?_
              refine W.region ?_
              refine WL.move rfl rfl ?_
              refine WL.gtrD rfl rfl rfl ?_
              refine WL.assign rfl rfl ?_
              refine WL.done ?_
              refine W.cond2 rfl (fun c53 => ?_) (fun c53 => ?_)
              · have hv := hv.1 (of_decide_eq_true c53)
                refine W.seq ?_
                refine W.region ?_
                refine WL.move rfl rfl ?_
                refine WL.eqlD rfl rfl rfl ?_
                refine WL.move rfl rfl ?_
                by_cases g54 : r48 = (8 : Int)
                · have hv := hv.1 g54
                  rw [decide_eq_true g54]
                  refine WL.take rfl ?_
                  refine WL.move rfl rfl ?_
                  refine WL.take rfl ?_
                  refine WL.len Try.underlying22 rfl rfl ?_
                  refine WL.take rfl ?_
                  refine WL.eqlD rfl rfl rfl ?_
                  refine WL.pick rfl rfl rfl ?_
                  refine WL.assign rfl rfl ?_
                  refine WL.done ?_
                  refine W.ret ?_
                  refine ⟨_, rfl, Fin.nil ?_⟩
                  exact ⟨_, hS.ext, (hS.pick [] rfl).rows, News.of (hS.pick [] rfl).rows rfl, ⟨(decide (((x44.length : Nat) : Int) = (0 : Int))), rfl, rfl, hv⟩⟩
                · have hv := hv.2 g54
                  rw [decide_eq_false g54]
                  refine WL.pass rfl rfl rfl ?_
                  refine WL.pass rfl rfl rfl ?_
                  refine WL.pass rfl rfl rfl ?_
                  refine WL.pick rfl rfl rfl ?_
                  refine WL.assign rfl rfl ?_
                  refine WL.done ?_
                  refine W.ret ?_
                  refine ⟨_, rfl, Fin.nil ?_⟩
                  exact ⟨_, hS.ext, (hS.pick [] rfl).rows, News.of (hS.pick [] rfl).rows rfl, ⟨false, rfl, rfl, hv⟩⟩
              · have hv := hv.2 (of_decide_eq_false c53)
                refine W.seq ?_
                refine W.region ?_
                refine WL.move rfl rfl ?_
                refine WL.lssD rfl rfl rfl ?_
                refine WL.assign rfl rfl ?_
                refine WL.done ?_
                refine W.cond2 rfl (fun c55 => ?_) (fun c55 => ?_)
                · have hv := hv.1 (of_decide_eq_true c55)
                  refine W.seq ?_
                  refine W.region ?_
                  refine WL.move rfl rfl ?_
                  refine WL.eqlD rfl rfl rfl ?_
                  refine WL.move rfl rfl ?_
                  by_cases g56 : r48 = (6 : Int)
                  · have hv := hv.1 g56
                    rw [decide_eq_true g56]
                    refine WL.take rfl ?_
                    refine WL.move rfl rfl ?_
                    refine WL.take rfl ?_
                    refine WL.len Try.underlying22 rfl rfl ?_
                    refine WL.take rfl ?_
                    refine WL.eqlD rfl rfl rfl ?_
                    refine WL.pick rfl rfl rfl ?_
                    refine WL.assign rfl rfl ?_
                    refine WL.done ?_
                    refine W.ret ?_
                    refine ⟨_, rfl, Fin.nil ?_⟩
                    exact ⟨_, hS.ext, (hS.pick [] rfl).rows, News.of (hS.pick [] rfl).rows rfl, ⟨(decide (((x44.length : Nat) : Int) = (0 : Int))), rfl, rfl, hv⟩⟩
                  · have hv := hv.2 g56
                    rw [decide_eq_false g56]
                    refine WL.pass rfl rfl rfl ?_
                    refine WL.pass rfl rfl rfl ?_
                    refine WL.pass rfl rfl rfl ?_
                    refine WL.pick rfl rfl rfl ?_
                    refine WL.assign rfl rfl ?_
                    refine WL.done ?_
                    refine W.ret ?_
                    refine ⟨_, rfl, Fin.nil ?_⟩
                    exact ⟨_, hS.ext, (hS.pick [] rfl).rows, News.of (hS.pick [] rfl).rows rfl, ⟨false, rfl, rfl, hv⟩⟩
                · have hv := hv.2 (of_decide_eq_false c55)
                  refine W.seq ?_
                  refine W.region ?_
                  refine WL.move rfl rfl ?_
                  refine WL.gtrD rfl rfl rfl ?_
                  refine WL.assign rfl rfl ?_
                  refine WL.done ?_
                  refine W.cond2 rfl (fun c57 => ?_) (fun c57 => ?_)
                  · have hv := hv.1 (of_decide_eq_true c57)
                    refine W.seq ?_
                    refine W.region ?_
                    refine WL.assign rfl rfl ?_
                    refine WL.done ?_
                    refine W.ret ?_
                    refine ⟨_, rfl, Fin.nil ?_⟩
                    exact ⟨_, hS.ext, (hS.pick [] rfl).rows, News.of (hS.pick [] rfl).rows rfl, ⟨true, rfl, rfl, hv⟩⟩
                  · have hv := hv.2 (of_decide_eq_false c57)
                    refine W.skip ?_
                    refine W.seq ?_
                    refine W.region ?_
                    refine WL.move rfl rfl ?_
                    refine WL.eqlD rfl rfl rfl ?_
                    refine WL.move rfl rfl ?_
                    by_cases g58 : r48 = (0 : Int)
                    · have hv := hv.1 g58
                      rw [decide_eq_true g58]
                      refine WL.take rfl ?_
                      refine WL.move rfl rfl ?_
                      refine WL.take rfl ?_
                      refine WL.loadV (cs := [.int .i64 Pf, .int .i64 Mf, .slice Af mf.length kf]) Try.el24 Try.agg24 rfl rfl (Own.vcells (hS.own (i := 3) rfl)) rfl ?_
                      refine WL.take rfl ?_
                      refine WL.move rfl rfl ?_
                      refine WL.take rfl ?_
                      refine WL.move rfl rfl ?_
                      refine WL.take rfl ?_
                      refine WL.move rfl rfl ?_
                      refine WL.take rfl ?_
                      refine SL.call hS (ok_rpowmod (hS.ro hf) (hS.ro hvv0) (hS.ro hvv1) hv) Try.func54 rfl Try.nm54 rfl rfl ?_
                      rintro _ _ w59 ⟨x60, A61, k62, rfl, rfl, hv⟩ hGw59 hS
                      change St _ _ _ _ [.row 3 1 A61 x60.length k62 (is x60), .row 3 1 A45 x44.length k46 (is x44), .ch lo23 hi24 (fun wz => GFX lo23 hi24 wz ad22 F21), .row 54 2 (some ⟨g13, 0, none⟩) 1 1 [.slice Avv0 vv0.length kvv0, .slice Avv1 vv1.length kvv1], .row 24 3 (some ⟨g11, 0, none⟩) 1 1 [.int .i64 Pf, .int .i64 Mf, .slice Af mf.length kf]] at hS
                      refine WL.take rfl ?_
                      refine SL.call hS (ok_lsame (hS.rd (i := 1) rfl) (hS.rd (i := 0) rfl) hv) Try.func23 rfl Try.nm23 rfl rfl ?_
                      rintro _ _ w64 ⟨r65, rfl, rfl, hv⟩ hGw64 hS
                      change St _ _ _ _ [.row 3 1 A61 x60.length k62 (is x60), .row 3 1 A45 x44.length k46 (is x44), .ch lo23 hi24 (fun wz => GFX lo23 hi24 wz ad22 F21), .row 54 2 (some ⟨g13, 0, none⟩) 1 1 [.slice Avv0 vv0.length kvv0, .slice Avv1 vv1.length kvv1], .row 24 3 (some ⟨g11, 0, none⟩) 1 1 [.int .i64 Pf, .int .i64 Mf, .slice Af mf.length kf]] at hS
                      refine WL.pick rfl rfl rfl ?_
                      refine WL.assign rfl rfl ?_
                      refine WL.done ?_
                      refine W.ret ?_
                      refine ⟨_, rfl, Fin.nil ?_⟩
                      exact ⟨_, hS.ext, (hS.pick [] rfl).rows, News.of (hS.pick [] rfl).rows rfl, ⟨r65, rfl, rfl, hv⟩⟩
                    · have hv := hv.2 g58
                      rw [decide_eq_false g58]
                      refine WL.pass rfl rfl rfl ?_
                      refine WL.pass rfl rfl rfl ?_
                      refine WL.pass rfl rfl rfl ?_
                      refine WL.pass rfl rfl rfl ?_
                      refine WL.pass rfl rfl rfl ?_
                      refine WL.pass rfl rfl rfl ?_
                      refine WL.pass rfl rfl rfl ?_
                      refine WL.pick rfl rfl rfl ?_
                      refine WL.assign rfl rfl ?_
                      refine WL.done ?_
                      refine W.ret ?_
                      refine ⟨_, rfl, Fin.nil ?_⟩
                      exact ⟨_, hS.ext, (hS.pick [] rfl).rows, News.of (hS.pick [] rfl).rows rfl, ⟨false, rfl, rfl, hv⟩⟩
end Go.Proofs.Ytmdigamgojfjdaa
set_option linter.unusedVariables false
set_option linter.unusedSimpArgs false
namespace Go.Proofs.Ytmdigamgojfjdaa
open Ks
section
variable {k : Ks} {F : GFv} {P M : Int} {mf : List Int}
theorem rm_fs {m A : Pl k.E} {d : Nat} (hm : Dg m d) (hA : Fs A) : Su (rm A m) d := by
  obtain ⟨a, ha⟩ := hA
  exact (qt_spec ha hm).2.2
theorem rm_mul {m A B : Pl k.E} {d : Nat} (hm : Dg m d) (hA : Fs A) (hB : Fs B) : rm (rm A m * rm B m) m = rm (A * B) m :=
  rm_of_cg hm (((rm_cg hA hm).symm.mul (rm_cg hB hm).symm ⟨_, rm_fs hm hB⟩ hA).trans (rm_cg (hA.mul hB) hm)) (rm_fs hm (hA.mul hB))
theorem pwr_fs {f : Pl k.E} (hf : Fs f) : ∀ n, Fs (pwr f n)
  | 0 => Fs.one
  | n + 1 => (pwr_fs hf n).mul hf
theorem pol_one : k.pol [1] = 1 := by rw [← L_one (k := k), pol_L Fs.one]
theorem rlen {m A : Pl k.E} {d : Nat} (hm : Dg m d) (hA : Fs A) : (k.L (rm A m)).length ≤ d := L_len (rm_fs hm hA)
theorem w_mulmod {A B : Pl k.E} {t : List Int} {d : Nat} {Q : List Int × List Int × Int → Prop} (K : GFk F k.p k.m k.v k.g) (ht : t.length ≤ 300) (hm : Dg (k.pol t) d) (hA : Fs A) (hB : Fs B)
    (h : ∀ q, Q (q, k.L (rm (A * B) (k.pol t)), 0)) : V_pmul F [k.L (rm A (k.pol t)), k.L (rm B (k.pol t))] (fun x => V_pdivmod F x t Q) := by
  have hd := hm.lt (pol_su t)
  have l1 := rlen hm hA
  have l2 := rlen hm hB
  have l3 := L_len (k := k) ((rm_fs hm hA).mul (rm_fs hm hB))
  refine w_pmul2 K (by omega) (by omega) ?_
  rw [pol_L ⟨_, rm_fs hm hA⟩, pol_L ⟨_, rm_fs hm hB⟩]
  refine w_pdivmod K (by omega) (by omega) (fun h0 => absurd h0 hm.ne) fun _ _ => ?_
  rw [pol_L (Fs.mul ⟨_, rm_fs hm hA⟩ ⟨_, rm_fs hm hB⟩), rm_mul hm hA hB]
  exact h _
theorem ishr_nat (N j : Nat) (hj : j ≤ 64) : ishr (N : Int) (j : Int) = ((N / 2 ^ j : Nat) : Int) := shr_nat rfl rfl 64 hj
theorem iand_one (a : Nat) : iand (a : Int) 1 = ((a % 2 : Nat) : Int) := by
  unfold iand
  rw [Int.toNat_natCast, show (1 : Int).toNat = 1 from rfl, Nat.and_one_is_mod]
theorem pos63 {a : Nat} (h : a < 9223372036854775808) : 0 ≤ (a : Int) ∧ (a : Int) < 9223372036854775808 ∧ 0 ≤ (1 : Int) ∧ (1 : Int) < 9223372036854775808 := by omega
theorem half_pow (N j : Nat) : N / 2 ^ j = N / 2 ^ (j + 1) + N / 2 ^ (j + 1) + N / 2 ^ j % 2 := by
  have : N / 2 ^ (j + 1) = N / 2 ^ j / 2 := by rw [Nat.pow_succ, Nat.div_div_eq_div_mul]
  omega
theorem w_ppowmod {p t : List Int} {n : Int} {Q : List Int × Int → Prop} (K : GFk F k.p k.m k.v k.g) (hp : p.length ≤ 300) (ht : t.length ≤ 300) (hn : I64 n) (h7 : k.pol t = 0 → Q ([], 7))
    (h8 : ∀ d, Dg (k.pol t) d → 256 < d → Q ([], 8)) (h6 : ∀ d, Dg (k.pol t) d → d ≤ 256 → n < 0 → Q ([], 6))
    (h0 : ∀ d (N : Nat), Dg (k.pol t) d → d ≤ 256 → n = N → Q (k.L (rm (pwr (k.pol p) N) (k.pol t)), 0)) : V_ppowmod F p n t Q := by
  refine w_deg K fun r hr _ => ?_
  rcases hr with ⟨rfl, hz⟩ | ⟨d, rfl, hd⟩
  · exact ⟨fun _ => h7 hz, fun h => absurd (by decide) h⟩
  refine ⟨fun h => by omega, fun _ => ⟨fun h => h8 d hd (by omega), fun hd2 => ⟨fun h => h6 d hd (by omega) h, fun hn0 => ?_⟩⟩⟩
  obtain ⟨N, rfl⟩ := Int.eq_ofNat_of_zero_le (show 0 ≤ n by omega)
  have hN : N < 9223372036854775808 := by have := hn.2; omega
  have hpf := pol_fs (k := k) p
  refine w_pdivmod K (by omega) (by omega) (fun h => absurd h hd.ne) fun _ _ => w_pdivmod K (by decide) (by omega) (fun h => absurd h hd.ne) fun _ _ => ?_
  rw [pol_one]
  have hb : bitn N ≤ 64 := bitn_le.2 (by omega)
  refine ⟨⟨by omega, by omega⟩, ⟨by omega, by omega⟩, ?_⟩
  rw [Int.toNat_natCast]
  refine ⟨small (by omega) (by omega), fun x e z => ∃ s : Nat, z = (s : Int) - 1 ∧ s ≤ 64 ∧ e = 0 ∧ x = k.L (rm (pwr (k.pol p) (N / 2 ^ s)) (k.pol t)), fun x e z => (z + 1).toNat, ⟨bitn N, rfl, hb, rfl, ?_⟩, ?_⟩
  · rw [Nat.div_eq_of_lt (bitn_le.1 (Nat.le_refl _))]; rfl
  rintro _ _ _ ⟨s, rfl, hs, rfl, rfl⟩
  refine ⟨fun hz => ?_, fun hz => ?_⟩
  · obtain ⟨j, rfl⟩ : ∃ j, s = j + 1 := ⟨s - 1, by omega⟩
    have ej : ((j + 1 : Nat) : Int) - 1 = (j : Int) := by omega
    simp only [ej]
    rw [ishr_nat N j (by omega), iand_one]
    have hle : N / 2 ^ j ≤ N := Nat.div_le_self _ _
    have hh := half_pow N j
    have hA := pwr_fs hpf (N / 2 ^ (j + 1))
    refine ⟨fun x e => e = 0 ∧ x = k.L (rm (pwr (k.pol p) (N / 2 ^ j)) (k.pol t)), w_mulmod K ht hd hA hA fun _ => ⟨by omega, pos63 (by omega), fun h1 => ?_, fun h1 => ⟨rfl, ?_⟩⟩, ?_⟩
    · refine w_mulmod K ht hd (hA.mul hA) hpf fun _ => ⟨rfl, ?_⟩
      rw [show N / 2 ^ j = N / 2 ^ (j + 1) + N / 2 ^ (j + 1) + 1 by omega, pwr_add, pwr_add, pwr_one]
    · rw [show N / 2 ^ j = N / 2 ^ (j + 1) + N / 2 ^ (j + 1) by omega, pwr_add]
    · rintro _ _ ⟨rfl, rfl⟩
      exact ⟨small (by omega) (by omega), ⟨j, rfl, by omega, rfl, rfl⟩, by omega⟩
  · obtain rfl : s = 0 := by omega
    rw [Nat.pow_zero, Nat.div_one]
    exact h0 d N hd (by omega) rfl
theorem w_rmulmod {A B : Pl k.E} {t : List Int} {d : Nat} (hF : FV P M mf k.p k.m k.v) (ht : t.length ≤ 300) (hm : Dg (k.pol t) d) (hA : Fs A) (hB : Fs B) :
    ∃ x, V_rpmul P M mf (k.L (rm A (k.pol t))) (k.L (rm B (k.pol t))) (fun q => q = x) ∧ V_rrem P M mf x t (fun q => q = k.L (rm (A * B) (k.pol t))) := by
  have hd := hm.lt (pol_su t)
  have l1 := rlen hm hA
  have l2 := rlen hm hB
  have l3 := L_len (k := k) ((rm_fs hm hA).mul (rm_fs hm hB))
  refine ⟨_, w_rpmul hF (by omega) (by omega) rfl, ?_⟩
  rw [pol_L ⟨_, rm_fs hm hA⟩, pol_L ⟨_, rm_fs hm hB⟩]
  refine w_rrem hF (by omega) (by omega) hm.ne ?_
  rw [pol_L (Fs.mul ⟨_, rm_fs hm hA⟩ ⟨_, rm_fs hm hB⟩), rm_mul hm hA hB]
theorem w_rpowmod {p t : List Int} {N : Nat} {d : Nat} {Q : List Int → Prop} (hF : FV P M mf k.p k.m k.v) (hp : p.length ≤ 300) (ht : t.length ≤ 300) (hN : N < 9223372036854775808) (hd : Dg (k.pol t) d)
    (h : Q (k.L (rm (pwr (k.pol p) N) (k.pol t)))) : V_rpowmod P M mf p (N : Int) t Q := by
  have hpf := pol_fs (k := k) p
  refine w_rrem hF (by decide) (by omega) hd.ne (w_rrem hF (by omega) (by omega) hd.ne ?_)
  rw [pol_one]
  refine ⟨fun x z y => ∃ i : Nat, z = ((N / 2 ^ i : Nat) : Int) ∧ x = k.L (rm (pwr (k.pol p) (2 ^ i)) (k.pol t)) ∧ y = k.L (rm (pwr (k.pol p) (N % 2 ^ i)) (k.pol t)), fun x z y => z.toNat, ⟨0, by rw [Nat.pow_zero, Nat.div_one], by rw [Nat.pow_zero, pwr_one], by rw [Nat.pow_zero, Nat.mod_one]; rfl⟩, ?_⟩
  rintro _ _ _ ⟨i, rfl, rfl, rfl⟩
  have hB := pwr_fs hpf (2 ^ i)
  have hle : N / 2 ^ i ≤ N := Nat.div_le_self _ _
  have et : ((N / 2 ^ i : Nat) : Int).tmod 2 = ((N / 2 ^ i % 2 : Nat) : Int) := (Int.ofNat_tmod _ _).symm
  have ed : ((N / 2 ^ i : Nat) : Int).tdiv 2 = ((N / 2 ^ (i + 1) : Nat) : Int) := by
    rw [show N / 2 ^ (i + 1) = N / 2 ^ i / 2 by rw [Nat.pow_succ, Nat.div_div_eq_div_mul]]; exact (Int.ofNat_tdiv _ _).symm
  have hmod := Nat.mod_pow_succ (x := N) (b := 2) (k := i)
  have hh : N / 2 ^ (i + 1) = N / 2 ^ i / 2 := by rw [Nat.pow_succ, Nat.div_div_eq_div_mul]
  refine ⟨fun hz => ⟨fun y => y = k.L (rm (pwr (k.pol p) (N % 2 ^ (i + 1))) (k.pol t)), ⟨fun h1 => ?_, fun h1 => ?_⟩, ?_⟩, fun hz => ?_⟩
  · obtain ⟨x, h2, h3⟩ := w_rmulmod hF ht hd (pwr_fs hpf (N % 2 ^ i)) hB
    rw [et] at h1
    refine ⟨x, h2, _, h3, ?_⟩
    rw [hmod, show N / 2 ^ i % 2 = 1 by omega, Nat.mul_one, pwr_add]
  · rw [et] at h1
    rw [hmod, show N / 2 ^ i % 2 = 0 by omega, Nat.mul_zero, Nat.add_zero]
  · rintro _ rfl
    obtain ⟨x, h2, h3⟩ := w_rmulmod hF ht hd hB hB
    refine ⟨x, h2, _, h3, ⟨by decide, ?_⟩, ⟨i + 1, ed, ?_, rfl⟩, ?_⟩
    · rw [ed]; exact ⟨by omega, by omega⟩
    · rw [Nat.pow_succ, Nat.mul_two, pwr_add]
    · have h5 : 0 < N / 2 ^ i := Int.ofNat_lt.1 hz
      show (Int.tdiv _ 2).toNat < Int.toNat _
      rw [ed, Int.toNat_natCast, Int.toNat_natCast, hh]; omega
  · have h1 : N / 2 ^ i = 0 := Nat.eq_zero_of_not_pos fun h => hz (Int.ofNat_lt.2 h)
    have h2 := half_pow N 0
    have : N < 2 ^ i := (Nat.div_eq_zero_iff_lt (Nat.pow_pos (by decide))).1 h1
    rw [Nat.mod_eq_of_lt this]; exact h
theorem law_PolyPowers (p t : List Int) (n : Int) (hn : I64 n) : V_PolyPowers P M mf p t n (fun b => b = true) := by
  refine w_alive ⟨fun h => absurd h (by decide), fun _ => w_made (fun _ => rfl) fun F k K hF => ⟨fun _ => rfl, fun hp => ⟨fun _ => rfl, fun ht => ?_⟩⟩⟩
  have htf := pol_fs (k := k) t
  refine w_ppowmod K (by omega) (by omega) hn (fun h0 => ?_) (fun d hd h8 => ?_) (fun d hd h8 h6 => ?_) fun d N hd h8 e => ?_
  · exact w_rdeg hF (by omega) ⟨fun _ => ⟨fun _ => rfl, fun h => absurd rfl h⟩, fun h => absurd ((deg_neg htf).2 h0) h⟩
  · have := L_dg (k := k) hd
    exact w_rdeg hF (by omega) ⟨fun h => by omega, fun _ => ⟨fun _ => ⟨fun _ => rfl, fun h => absurd rfl h⟩, fun h => by omega⟩⟩
  · have := L_dg (k := k) hd
    exact w_rdeg hF (by omega) ⟨fun h => by omega, fun _ => ⟨fun h => by omega, fun _ => ⟨fun _ => ⟨fun _ => rfl, fun h => absurd rfl h⟩, fun h => by omega⟩⟩⟩
  · subst e
    have := L_dg (k := k) hd
    have hN : N < 9223372036854775808 := by have := hn.2; omega
    have hl := rlen hd (pwr_fs (pol_fs (k := k) p) N)
    exact w_rdeg hF (by omega) ⟨fun h => by omega, fun _ => ⟨fun h => by omega, fun _ => ⟨fun h => by omega, fun _ => ⟨fun _ => rfl, fun _ => ⟨fun _ => w_rpowmod hF (by omega) (by omega) hN hd (w_same (by omega) rfl rfl), fun h => absurd rfl h⟩⟩⟩⟩⟩
end
end Go.Proofs.Ytmdigamgojfjdaa
