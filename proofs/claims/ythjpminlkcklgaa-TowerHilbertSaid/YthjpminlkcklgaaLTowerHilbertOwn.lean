/- What only this law leans on. -/
import Derived.Test.YthjpminlkcklgaaTowerTransitiveG9
namespace Go.Proofs.Ythjpminlkcklgaa
open Go.RowKit

section
variable {P : Program} {n : Nat} {ro : Option Nat} {df : List Deferred} {N : Post} {L : Fr} {w : World} {ops : Array Oper} {rest : List Oper}
variable {d : Nat} {ty : TypeId} {pos : String} {af : Array Edge}

/-- A guard on an operation that was passed over. -/
theorem WL.passU {op : Op} {j : Nat} {want : Bool} (hb : ((ops[j]?).bind (·.dst)).bind (lk L) = some undef) (hn : Nat.blt d n = true)
    (h : WL P n ro df ops rest N ((d, undef) :: L) w) : WL P n ro df ops (⟨some d, op, ty, pos, af, some (j, want)⟩ :: rest) N L w := by
  refine ⟨fun a ha B => ?_⟩
  have hy : yielded ops a.tmps j = none := by
    unfold yielded
    cases hj : (ops[j]?).bind (·.dst) with
    | none => rw [hj] at hb; cases hb
    | some t => rw [hj] at hb; simp only [Option.bind_some] at hb ⊢; rw [ha.at_ t _ hb]; rfl
  refine wpList_skipW ?_ (h.out _ (ha.put (by simpa [Nat.blt_eq] using hn) _) B)
  simp only [Region.wanted, hy]
  rfl
theorem run_equalIn_bool {P : Program} {w : World} {t : TypeId} (ht : P.underlying t = some .bool) (k : Nat) (a b : Bool) : (Op.equalIn (k + 1) t (.bool a) (.bool b)).run P w = .ok (a == b) w := by
  rw [Op.equalIn]
  simp [run_underlying ht]
theorem run_equal_bool {P : Program} {w : World} {t : TypeId} (ht : P.underlying t = some .bool) (a b : Bool) : (Op.equal t (.bool a) (.bool b)).run P w = .ok (a == b) w := run_equalIn_bool ht 9999 a b
theorem WL.eqB {x y : Operand} {a b r : Bool} {tx tb : TypeId} (hx : ev L x = some (.bool a)) (hy : ev L y = some (.bool b)) (ht : P.underlying tx = some .bool) (hr : (a == b) = r) (hn : Nat.blt d n = true) (h : WL P n ro df ops rest N ((d, .bool r) :: L) w) :
    WL P n ro df ops (⟨some d, .binOp .eql tx x y tb, ty, pos, af, none⟩ :: rest) N L w :=
  WL.val rfl rfl hn (fun _ ha => by subst hr; cases a <;> cases b <;> simp [execOp, eqGuard, binOp, ha.ev hx, ha.ev hy, run_equal_bool ht]) h
end
end Go.Proofs.Ythjpminlkcklgaa
set_option linter.unusedVariables false
namespace Go.Proofs.Ythjpminlkcklgaa
open Go.RowKit
theorem Try.nm34 : (Try.f34.name == "runtime.NumGoroutine") = false := by kernel_rfl
theorem Try.nm50 : (Try.f50.name == "runtime.NumGoroutine") = false := by kernel_rfl
end Go.Proofs.Ythjpminlkcklgaa
set_option linter.unusedSimpArgs false
set_option linter.unusedVariables false
namespace Go.Proofs.Ythjpminlkcklgaa
open Go.RowKit
def V_rNeg (Pf : Int) (Mf : Int) (mf : List Int) (x : Int) (Q : Int → Prop) : Prop :=
  V_rDigits Pf Mf mf x (fun x14 => ∃ (I24 : List Int → Int → Prop) (μ25 : List Int → Int → Nat), I24 x14 (0 : Int) ∧ ∀ (x22 : List Int) (z23 : Int), (I24 x22 z23 → (((z23 < ((x14.length : Nat) : Int)) → ((0 ≤ z23 ∧ z23 < (x14.length : Nat)) ∧ ((I64 (Pf - (gi x22 z23))) ∧ ((Pf ≠ 0) ∧ ((0 ≤ z23 ∧ z23 < (x14.length : Nat)) ∧ ((I64 (z23 + (1 : Int))) ∧ (I24 (si x22 z23 ((Pf - (gi x22 z23)).tmod Pf)) (z23 + (1 : Int)) ∧ μ25 (si x22 z23 ((Pf - (gi x22 z23)).tmod Pf)) (z23 + (1 : Int)) < μ25 x22 z23))))))) ∧ (¬ (z23 < ((x14.length : Nat) : Int)) → (V_rValue Pf Mf mf x22 (fun r48 => Q r48))))))
theorem ok_rNeg {w : World} {Q : Int → Prop} {Pf : Int} {Mf : Int} {mf : List Int} {x : Int} {Bf : Nat} {Af : Option Addr} {nf kf : Nat} (hf : Rd Bf w 1 Af nf kf (is mf)) (hv : V_rNeg Pf Mf mf x Q) :
    Calls Try.prog 34 #[.agg #[.int .i64 Pf, .int .i64 Mf, .slice Af nf kf], .int .i64 x] w fun e w' => ∃ v Qr, e = .returned v ∧ w.grownBy w' none ∧ Rows w.heap.size none w' Qr ∧ News w.heap.size Qr ∧ ∃ (r0 : Int), v = .int .i64 r0 ∧ Qr = [] ∧ Q r0 := by
  have hnf := hf.ilen
  subst hnf
  refine calls_swap ?_
  refine calls_of_W (vs := [.agg #[.int .i64 Pf, .int .i64 Mf, .slice Af mf.length kf], .int .i64 x]) [4] Try.func34 rfl rfl rfl rfl ?_
  have hS := St.start w
  unfold V_rNeg at hv
  refine W.seq ?_
  refine W.region ?_
  refine SL.box (z := 3) (cs := [.int .i64 Pf, .int .i64 Mf, .slice Af mf.length kf]) hS rfl rfl rfl rfl ?_
  intro g11 w12 hS
  refine WL.assign rfl rfl ?_
  refine WL.done ?_
  refine W.seq ?_
  refine W.region ?_
  refine WL.loadV (cs := [.int .i64 Pf, .int .i64 Mf, .slice Af mf.length kf]) Try.el24 Try.agg24 rfl rfl (Own.vcells (hS.own (i := 0) rfl)) rfl ?_
  refine WL.move rfl rfl ?_
  refine SL.call hS (ok_rDigits (hS.ro hf) hv) Try.func62 rfl Try.nm62 rfl rfl ?_
  rintro _ _ w13 ⟨x14, A15, k16, rfl, rfl, hv⟩ hGw13 hS
  change St _ _ _ _ [.row 3 1 A15 x14.length k16 (is x14), .row 24 3 (some ⟨g11, 0, none⟩) 1 1 [.int .i64 Pf, .int .i64 Mf, .slice Af mf.length kf]] at hS
  refine WL.assign rfl rfl ?_
  refine WL.done ?_
  refine W.seq ?_
  refine W.seq ?_
  refine W.region ?_
  refine WL.assign rfl rfl ?_
  refine WL.done ?_
  refine W.block ?_
  obtain ⟨I24, μ25, hv, hk49⟩ := hv
  change St _ _ _ _ [.row 3 1 A15 x14.length k16 (is x14), .row 24 3 (some ⟨g11, 0, none⟩) 1 1 [.int .i64 Pf, .int .i64 Mf, .slice Af mf.length kf]] at hS
  refine W.loop (σ := List Int × Int) (fun q w1 => match q with | (x22, z23) => I24 x22 z23 ∧ St TT w none w1 [.row 3 1 A15 x14.length k16 (is x22), .row 24 3 (some ⟨g11, 0, none⟩) 1 1 [.int .i64 Pf, .int .i64 Mf, .slice Af mf.length kf]]) (fun q => match q with | (x22, z23) => [(2, .pointer (some ⟨g11, 0, none⟩)), (4, .int .i64 (0 : Int)), (5, .slice A15 x14.length k16), (6, .int .i64 z23)]) (fun q => match q with | (x22, z23) => μ25 x22 z23) (x14, (0 : Int)) ⟨hv, hS⟩ ⟨rfl, rfl, rfl, rfl, trivial⟩ ?_
  rintro ⟨x22, z23⟩ w26 ⟨hv, hS⟩
  have hv := hk49 x22 z23 hv
  refine W.seq ?_
  refine W.seq ?_
  refine W.region ?_
  refine WL.move rfl rfl ?_
  refine WL.move rfl rfl ?_
  refine WL.len Try.underlying22 rfl rfl ?_
  refine WL.lssD rfl rfl rfl ?_
  refine WL.done ?_
  refine W.cond2 rfl (fun c27 => ?_) (fun c27 => ?_)
  · have hv := hv.1 (of_decide_eq_true c27)
    refine W.skip ?_
    refine W.seq ?_
    refine W.block ?_
    obtain ⟨o35, hv⟩ := hv
    obtain ⟨o38, hv⟩ := hv
    obtain ⟨o42, hv⟩ := hv
    have hS0 := hS
    refine W.drawX 12 (fun _ => false) (fun _ => none) [⟨[], [5], true⟩, ⟨[], [6], true⟩, ⟨[], [2], true⟩, ⟨[2], [], false⟩, ⟨[], [5], true⟩, ⟨[], [6], true⟩, ⟨[4, 5], [], true⟩, ⟨[6], [], false⟩, ⟨[3, 7], [], true⟩, ⟨[], [2], true⟩, ⟨[9], [], false⟩, ⟨[8, 10], [], true⟩] [[(5, .slice A15 x14.length k16)], [(6, .int .i64 z23)], [(2, .pointer (some ⟨g11, 0, none⟩))], [], [(5, .slice A15 x14.length k16)], [(6, .int .i64 z23)], [], [], [], [(2, .pointer (some ⟨g11, 0, none⟩))], [], []] (fun iQ => [fun v _ => v = .slice A15 x14.length k16, fun v _ => v = .int .i64 z23, fun v _ => v = .pointer (some ⟨g11, 0, none⟩), fun v _ => v = .int .i64 Pf, fun v _ => v = .slice A15 x14.length k16, fun v _ => v = .int .i64 z23, fun v _ => v = .pointer (some ((adOf A15).add z23.toNat)), fun v _ => v = .int .i64 (gi x22 z23), fun v _ => v = .int .i64 (Pf - (gi x22 z23)), fun v _ => v = .pointer (some ⟨g11, 0, none⟩), fun v _ => v = .int .i64 Pf, fun v _ => v = .int .i64 ((Pf - (gi x22 z23)).tmod Pf)].getD iQ (fun _ _ => True)) Try.mixed (by kernel_rfl) ?_ (by kernel_rfl) ?_ ?_
    · refine Vs_monoT _ ?_
      intro VQ hVQ vQ wQ1 wQ2 hQ1 hQ2
      simp only [List.mem_cons, List.not_mem_nil, or_false] at hVQ
      rcases hVQ with rfl | rfl | rfl | rfl | rfl | rfl | rfl | rfl | rfl | rfl | rfl | rfl
      · exact hQ1
      · exact hQ1
      · exact hQ1
      · exact hQ1
      · exact hQ1
      · exact hQ1
      · exact hQ1
      · exact hQ1
      · exact hQ1
      · exact hQ1
      · exact hQ1
      · exact hQ1
    · refine ⟨⟨rfl, ⟨rfl, trivial⟩, ?_⟩, ⟨rfl, ⟨rfl, trivial⟩, ?_⟩, ⟨rfl, ⟨rfl, trivial⟩, ?_⟩, ⟨rfl, trivial, ?_⟩, ⟨rfl, ⟨rfl, trivial⟩, ?_⟩, ⟨rfl, ⟨rfl, trivial⟩, ?_⟩, ⟨rfl, trivial, ?_⟩, ⟨rfl, trivial, ?_⟩, ⟨rfl, trivial, ?_⟩, ⟨rfl, ⟨rfl, trivial⟩, ?_⟩, ⟨rfl, trivial, ?_⟩, ⟨rfl, trivial, ?_⟩, trivial⟩
      · intro w28 hE
        intro RR
        refine WL.move rfl rfl ?_
        exact WL.done ⟨_, rfl, rfl, rfl, (fun h => absurd h (by decide)), (fun j h => by cases h)⟩
      · intro w29 hE
        intro RR
        refine WL.move rfl rfl ?_
        exact WL.done ⟨_, rfl, rfl, rfl, (fun h => absurd h (by decide)), (fun j h => by cases h)⟩
      · intro w30 hE
        intro RR
        refine WL.fieldA (off := 0) Try.fla24_0 rfl rfl ?_
        exact WL.done ⟨_, rfl, rfl, rfl, (fun h => absurd h (by decide)), (fun j h => by cases h)⟩
      · intro w31 hE
        have hE := hE rfl
        have hS := hS.grow hE
        rintro _ rfl
        intro RR
        refine WL.load Try.underlying3 rfl rfl (Own.vcells (hS.own (i := 1) rfl) 0 _ rfl) rfl ?_
        exact WL.done ⟨_, rfl, ext_refl _, rfl, (fun h => absurd h (by decide)), (fun j h => by cases h)⟩
      · intro w32 hE
        intro RR
        refine WL.move rfl rfl ?_
        exact WL.done ⟨_, rfl, rfl, rfl, (fun h => absurd h (by decide)), (fun j h => by cases h)⟩
      · intro w33 hE
        intro RR
        refine WL.move rfl rfl ?_
        exact WL.done ⟨_, rfl, rfl, rfl, (fun h => absurd h (by decide)), (fun j h => by cases h)⟩
      · intro w34 hE
        rintro _ rfl
        rintro _ rfl
        intro RR
        refine SL.index Try.underlying22 Try.el3 (hS.rd (i := 0) rfl) rfl rfl o35 rfl ?_
        exact WL.done ⟨_, rfl, rfl, rfl, (fun h => absurd h (by decide)), (fun j h => by cases h)⟩
      · intro w36 hE
        have hE := hE rfl
        have hS := hS.grow hE
        rintro _ rfl
        intro RR
        refine WL.load Try.underlying3 rfl rfl (Rd.gi (hS.rd (i := 0) rfl) o35) rfl ?_
        exact WL.done ⟨_, rfl, ext_refl _, rfl, (fun h => absurd h (by decide)), (fun j h => by cases h)⟩
      · intro w37 hE
        rintro _ rfl
        rintro _ rfl
        intro RR
        refine WL.sub (r := (Pf - (gi x22 z23))) rfl rfl (wr o38) rfl ?_
        exact WL.done ⟨_, rfl, rfl, rfl, (fun h => absurd h (by decide)), (fun j h => by cases h)⟩
      · intro w39 hE
        intro RR
        refine WL.fieldA (off := 0) Try.fla24_0 rfl rfl ?_
        exact WL.done ⟨_, rfl, rfl, rfl, (fun h => absurd h (by decide)), (fun j h => by cases h)⟩
      · intro w40 hE
        have hE := hE rfl
        have hS := hS.grow hE
        rintro _ rfl
        intro RR
        refine WL.load Try.underlying3 rfl rfl (Own.vcells (hS.own (i := 1) rfl) 0 _ rfl) rfl ?_
        exact WL.done ⟨_, rfl, ext_refl _, rfl, (fun h => absurd h (by decide)), (fun j h => by cases h)⟩
      · intro w41 hE
        rintro _ rfl
        rintro _ rfl
        intro RR
        refine WL.rem (r := ((Pf - (gi x22 z23)).tmod Pf)) rfl rfl o42 rfl rfl ?_
        exact WL.done ⟨_, rfl, rfl, rfl, (fun h => absurd h (by decide)), (fun j h => by cases h)⟩
    · intro vals w43 hT hVs hAp hCp
      have hS := hS.grow hT
      have hv0 : vals 0 = _ := hVs 0 (by decide)
      have hv1 : vals 1 = _ := hVs 1 (by decide)
      have hv2 : vals 2 = _ := hVs 2 (by decide)
      have hv3 : vals 3 = _ := hVs 3 (by decide)
      have hv4 : vals 4 = _ := hVs 4 (by decide)
      have hv5 : vals 5 = _ := hVs 5 (by decide)
      have hv6 : vals 6 = _ := hVs 6 (by decide)
      have hv7 : vals 7 = _ := hVs 7 (by decide)
      have hv8 : vals 8 = _ := hVs 8 (by decide)
      have hv9 : vals 9 = _ := hVs 9 (by decide)
      have hv10 : vals 10 = _ := hVs 10 (by decide)
      have hv11 : vals 11 = _ := hVs 11 (by decide)
      rw [show (List.filterMap (fun i => Option.map (fun t => (t, vals i)) (dstAt _ i)) (List.range _)) = [(16, .slice A15 x14.length k16), (17, .int .i64 z23), (18, .pointer (some ⟨g11, 0, none⟩)), (19, .int .i64 Pf), (20, .slice A15 x14.length k16), (21, .int .i64 z23), (22, .pointer (some ((adOf A15).add z23.toNat))), (23, .int .i64 (gi x22 z23)), (24, .int .i64 (Pf - (gi x22 z23))), (25, .pointer (some ⟨g11, 0, none⟩)), (26, .int .i64 Pf), (27, .int .i64 ((Pf - (gi x22 z23)).tmod Pf))] from by
        show [(16, vals 0), (17, vals 1), (18, vals 2), (19, vals 3), (20, vals 4), (21, vals 5), (22, vals 6), (23, vals 7), (24, vals 8), (25, vals 9), (26, vals 10), (27, vals 11)] = _
        rw [hv0, hv1, hv2, hv3, hv4, hv5, hv6, hv7, hv8, hv9, hv10, hv11]]
      refine WA.step [12] (by decide +kernel) rfl ?_
      intro iQ hQ
      simp only [List.mem_cons, List.not_mem_nil, or_false] at hQ
      obtain rfl := hQ
      refine ⟨_, rfl, ?_⟩
      obtain ⟨o44, hv⟩ := hv
      refine SL.index Try.underlying22 Try.el3 (hS.rd (i := 0) rfl) rfl rfl o44 rfl ?_
      refine WL.done ?_
      refine WA.step [13] (by decide +kernel) rfl ?_
      intro iQ hQ
      simp only [List.mem_cons, List.not_mem_nil, or_false] at hQ
      obtain rfl := hQ
      refine ⟨_, rfl, ?_⟩
      refine SL.store (cs' := is (si x22 z23 ((Pf - (gi x22 z23)).tmod Pf))) 0 z23.toNat hS rfl Try.el3 rfl rfl rfl (is_lt (hS.rd (i := 0) rfl) o44) (is_set _ _ _) ?_
      intro w45 hS
      refine WL.done ?_
      refine WA.done (by decide +kernel) ?_
      refine W.region ?_
      refine WL.move rfl rfl ?_
      obtain ⟨o46, hv⟩ := hv
      refine WL.add (r := (z23 + (1 : Int))) rfl rfl (wr o46) rfl ?_
      refine WL.assign rfl rfl ?_
      refine WL.done ?_
      change St _ _ _ _ [.row 3 1 A15 x14.length k16 (is (si x22 z23 ((Pf - (gi x22 z23)).tmod Pf))), .row 24 3 (some ⟨g11, 0, none⟩) 1 1 [.int .i64 Pf, .int .i64 Mf, .slice Af mf.length kf]] at hS
      exact ⟨(si x22 z23 ((Pf - (gi x22 z23)).tmod Pf), (z23 + (1 : Int))), ⟨rfl, rfl, rfl, rfl, trivial⟩, hv.2, rfl, hv.1, hS⟩
  · have hv := hv.2 (of_decide_eq_false c27)
    refine W.exit ?_
    refine W.seq ?_
    refine W.region ?_
    refine WL.loadV (cs := [.int .i64 Pf, .int .i64 Mf, .slice Af mf.length kf]) Try.el24 Try.agg24 rfl rfl (Own.vcells (hS.own (i := 1) rfl)) rfl ?_
    refine WL.move rfl rfl ?_
    refine SL.call hS (ok_rValue (hS.ro hf) (hS.rd (i := 0) rfl) hv) Try.func63 rfl Try.nm63 rfl rfl ?_
    rintro _ _ w47 ⟨r48, rfl, rfl, hv⟩ hGw47 hS
    change St _ _ _ _ [.row 3 1 A15 x14.length k16 (is x22), .row 24 3 (some ⟨g11, 0, none⟩) 1 1 [.int .i64 Pf, .int .i64 Mf, .slice Af mf.length kf]] at hS
    refine WL.assign rfl rfl ?_
    refine WL.done ?_
    refine W.ret ?_
    refine ⟨_, rfl, Fin.nil ?_⟩
    exact ⟨_, hS.ext, (hS.pick [] rfl).rows, News.of (hS.pick [] rfl).rows rfl, ⟨r48, rfl, rfl, hv⟩⟩

end Go.Proofs.Ythjpminlkcklgaa
set_option linter.unusedSimpArgs false
set_option linter.unusedVariables false
namespace Go.Proofs.Ythjpminlkcklgaa
open Go.RowKit
def V_rSub (Pf : Int) (Mf : Int) (mf : List Int) (x : Int) (y : Int) (Q : Int → Prop) : Prop :=
  ∃ (r18 : Int), V_rNeg Pf Mf mf y (fun q => q = r18) ∧ (∃ (r22 : Int), V_rAdd Pf Mf mf x r18 (fun q => q = r22) ∧ Q r22)
theorem ok_rSub {w : World} {Q : Int → Prop} {Pf : Int} {Mf : Int} {mf : List Int} {x : Int} {y : Int} {Bf : Nat} {Af : Option Addr} {nf kf : Nat} (hf : Rd Bf w 1 Af nf kf (is mf)) (hv : V_rSub Pf Mf mf x y Q) :
    Calls Try.prog 50 #[.agg #[.int .i64 Pf, .int .i64 Mf, .slice Af nf kf], .int .i64 x, .int .i64 y] w fun e w' => ∃ v Qr, e = .returned v ∧ w.grownBy w' none ∧ Rows w.heap.size none w' Qr ∧ News w.heap.size Qr ∧ ∃ (r0 : Int), v = .int .i64 r0 ∧ Qr = [] ∧ Q r0 := by
  have hnf := hf.ilen
  subst hnf
  refine calls_swap ?_
  refine calls_of_W (vs := [.agg #[.int .i64 Pf, .int .i64 Mf, .slice Af mf.length kf], .int .i64 x, .int .i64 y]) [6] Try.func50 rfl rfl rfl rfl ?_
  have hS := St.start w
  unfold V_rSub at hv
  refine W.seq ?_
  refine W.region ?_
  refine SL.box (z := 3) (cs := [.int .i64 Pf, .int .i64 Mf, .slice Af mf.length kf]) hS rfl rfl rfl rfl ?_
  intro g11 w12 hS
  refine WL.assign rfl rfl ?_
  refine WL.done ?_
  refine W.seq ?_
  obtain ⟨r18, o20, hv⟩ := hv
  obtain ⟨r22, o24, hv⟩ := hv
  have hS0 := hS
  refine W.drawX 7 (fun _ => false) (fun _ => none) [⟨[], [3], false⟩, ⟨[], [1], true⟩, ⟨[], [3], false⟩, ⟨[], [2], true⟩, ⟨[2, 3], [], false⟩, ⟨[0, 1, 4], [], false⟩, ⟨[5], [], true⟩] [[(3, .pointer (some ⟨g11, 0, none⟩))], [(1, .int .i64 x)], [(3, .pointer (some ⟨g11, 0, none⟩))], [(2, .int .i64 y)], [], [], []] (fun iQ => [fun v _ => v = .agg #[.int .i64 Pf, .int .i64 Mf, .slice Af mf.length kf], fun v _ => v = .int .i64 x, fun v _ => v = .agg #[.int .i64 Pf, .int .i64 Mf, .slice Af mf.length kf], fun v _ => v = .int .i64 y, fun v _ => v = .int .i64 r18, fun v _ => v = .int .i64 r22, fun v _ => v = .int .i64 r22].getD iQ (fun _ _ => True)) Try.mixed (by kernel_rfl) ?_ (by kernel_rfl) ?_ ?_
  · refine Vs_monoT _ ?_
    intro VQ hVQ vQ wQ1 wQ2 hQ1 hQ2
    simp only [List.mem_cons, List.not_mem_nil, or_false] at hVQ
    rcases hVQ with rfl | rfl | rfl | rfl | rfl | rfl | rfl
    · exact hQ1
    · exact hQ1
    · exact hQ1
    · exact hQ1
    · exact hQ1
    · exact hQ1
    · exact hQ1
  · refine ⟨⟨rfl, ⟨rfl, trivial⟩, ?_⟩, ⟨rfl, ⟨rfl, trivial⟩, ?_⟩, ⟨rfl, ⟨rfl, trivial⟩, ?_⟩, ⟨rfl, ⟨rfl, trivial⟩, ?_⟩, ⟨rfl, trivial, ?_⟩, ⟨rfl, trivial, ?_⟩, ⟨rfl, trivial, ?_⟩, trivial⟩
    · intro w13 hE
      have hE := hE rfl
      have hS := hS.grow hE
      intro RR
      refine WL.loadV (cs := [.int .i64 Pf, .int .i64 Mf, .slice Af mf.length kf]) Try.el24 Try.agg24 rfl rfl (Own.vcells (hS.own (i := 0) rfl)) rfl ?_
      exact WL.done ⟨_, rfl, ext_refl _, rfl, (fun h => absurd h (by decide)), (fun j h => by cases h)⟩
    · intro w14 hE
      intro RR
      refine WL.move rfl rfl ?_
      exact WL.done ⟨_, rfl, rfl, rfl, (fun h => absurd h (by decide)), (fun j h => by cases h)⟩
    · intro w15 hE
      have hE := hE rfl
      have hS := hS.grow hE
      intro RR
      refine WL.loadV (cs := [.int .i64 Pf, .int .i64 Mf, .slice Af mf.length kf]) Try.el24 Try.agg24 rfl rfl (Own.vcells (hS.own (i := 0) rfl)) rfl ?_
      exact WL.done ⟨_, rfl, ext_refl _, rfl, (fun h => absurd h (by decide)), (fun j h => by cases h)⟩
    · intro w16 hE
      intro RR
      refine WL.move rfl rfl ?_
      exact WL.done ⟨_, rfl, rfl, rfl, (fun h => absurd h (by decide)), (fun j h => by cases h)⟩
    · intro w17 hE
      have hE := hE rfl
      have hS := hS.grow hE
      rintro _ rfl
      rintro _ rfl
      intro RR
      refine WL.call Try.func34 rfl Try.nm34 rfl rfl (calls_un (ok_rNeg (hS.ro hf) o20)) ?_
      rintro _ w19 ⟨_, hGw19, hRww19, hNww19, r18q, rfl, rfl, he⟩
      subst he
      exact WL.done ⟨_, rfl, hGw19, rfl, (fun h => absurd h (by decide)), (fun j h => by cases h)⟩
    · intro w21 hE
      have hE := hE rfl
      have hS := hS.grow hE
      rintro _ rfl
      rintro _ rfl
      rintro _ rfl
      intro RR
      refine WL.call Try.func24 rfl Try.nm24 rfl rfl (calls_un (ok_rAdd (hS.ro hf) o24)) ?_
      rintro _ w23 ⟨_, hGw23, hRww23, hNww23, r22q, rfl, rfl, he⟩
      subst he
      exact WL.done ⟨_, rfl, hGw23, rfl, (fun h => absurd h (by decide)), (fun j h => by cases h)⟩
    · intro w25 hE
      rintro _ rfl
      intro RR
      refine WL.assign rfl rfl ?_
      exact WL.done ⟨_, rfl, rfl, rfl, (fun h => absurd h (by decide)), (fun j h => by cases h)⟩
  · intro vals w26 hT hVs hAp hCp
    have hS := hS.grow hT
    have hv0 : vals 0 = _ := hVs 0 (by decide)
    have hv1 : vals 1 = _ := hVs 1 (by decide)
    have hv2 : vals 2 = _ := hVs 2 (by decide)
    have hv3 : vals 3 = _ := hVs 3 (by decide)
    have hv4 : vals 4 = _ := hVs 4 (by decide)
    have hv5 : vals 5 = _ := hVs 5 (by decide)
    have hv6 : vals 6 = _ := hVs 6 (by decide)
    rw [show (List.filterMap (fun i => Option.map (fun t => (t, vals i)) (dstAt _ i)) (List.range _)) = [(7, .agg #[.int .i64 Pf, .int .i64 Mf, .slice Af mf.length kf]), (8, .int .i64 x), (9, .agg #[.int .i64 Pf, .int .i64 Mf, .slice Af mf.length kf]), (10, .int .i64 y), (11, .int .i64 r18), (12, .int .i64 r22), (6, .int .i64 r22)] from by
      show [(7, vals 0), (8, vals 1), (9, vals 2), (10, vals 3), (11, vals 4), (12, vals 5), (6, vals 6)] = _
      rw [hv0, hv1, hv2, hv3, hv4, hv5, hv6]]
    refine WA.done (by decide +kernel) ?_
    refine W.ret ?_
    refine ⟨_, rfl, Fin.nil ?_⟩
    exact ⟨_, hS.ext, (hS.pick [] rfl).rows, News.of (hS.pick [] rfl).rows rfl, ⟨r22, rfl, rfl, hv⟩⟩
end Go.Proofs.Ythjpminlkcklgaa
set_option linter.unusedSimpArgs false
set_option linter.unusedVariables false
namespace Go.Proofs.Ythjpminlkcklgaa
open Go.RowKit
def V_TowerHilbert (Pf : Int) (Mf : Int) (mf : List Int) (x : Int) (d : Int) (Q : Bool → Prop) : Prop :=
  V_alive  (fun r14 => (((!r14) = true) → Q false) ∧ ((!r14) = false → (V_made Pf Mf mf (fun q => match q with | none => Q true | some F19 => V_tdivides Pf Mf mf d (fun r26 => (((!r26) = true) → Q true) ∧ ((!r26) = false → (V_rIn Pf Mf mf x (fun r29 => V_trace F19 r29 d (fun q => match q with | (r31, r32) => V_norm F19 r29 d (fun q => match q with | (r34, r35) => V_rOrder Pf Mf mf (fun r37 => ∃ (I49 : Bool → Bool → Int → Prop) (μ50 : Bool → Bool → Int → Nat), I49 false false (0 : Int) ∧ ∀ (b46 : Bool) (b47 : Bool) (z48 : Int), (I49 b46 b47 z48 → (((z48 < r37) → (∃ J56 : Bool → Bool → Int → Prop, (V_frob F19 z48 d (fun r58 => ((b46 = true) → (((b47 = true) → J56 true true r58) ∧ (b47 = false → (((z48 ≠ (0 : Int)) → (V_rMul Pf Mf mf r29 z48 (fun r63 => J56 true (decide (r63 = r58)) r58))) ∧ (¬ (z48 ≠ (0 : Int)) → J56 true false r58))))) ∧ (b46 = false → (V_rSub Pf Mf mf r58 z48 (fun r65 => ((b47 = true) → (J56 (decide (r65 = r29)) true r58)) ∧ (b47 = false → (((z48 ≠ (0 : Int)) → (V_rMul Pf Mf mf r29 z48 (fun r69 => J56 (decide (r65 = r29)) (decide (r69 = r58)) r58))) ∧ (¬ (z48 ≠ (0 : Int)) → (J56 (decide (r65 = r29)) false r58))))))))) ∧ ∀ (b53 : Bool) (b54 : Bool) (z55 : Int), (J56 b53 b54 z55 → ((I64 (z48 + (1 : Int))) ∧ (I49 b53 b54 (z48 + (1 : Int)) ∧ μ50 b53 b54 (z48 + (1 : Int)) < μ50 b46 b47 z48))))) ∧ (¬ (z48 < r37) → (((r32 = (0 : Int)) → (((r35 = (0 : Int)) → (((((decide (r31 = (0 : Int))) == b46) = true) → (Q ((decide (r34 = (1 : Int))) == b47))) ∧ (((decide (r31 = (0 : Int))) == b46) = false → Q false))) ∧ (¬ (r35 = (0 : Int)) → Q false))) ∧ (¬ (r32 = (0 : Int)) → Q false))))))))))))))))
theorem ok_TowerHilbert {w : World} {Q : Bool → Prop} {Pf : Int} {Mf : Int} {mf : List Int} {x : Int} {d : Int} {Bf : Nat} {Af : Option Addr} {nf kf : Nat} (hf : Rd Bf w 1 Af nf kf (is mf)) (hv : V_TowerHilbert Pf Mf mf x d Q) :
    Calls Try.prog 15 #[.agg #[.int .i64 Pf, .int .i64 Mf, .slice Af nf kf], .int .i64 x, .int .i64 d] w fun e w' => ∃ v Qr, e = .returned v ∧ w.grownBy w' none ∧ Rows w.heap.size none w' Qr ∧ News w.heap.size Qr ∧ ∃ (r0 : Bool), v = .bool r0 ∧ Qr = [] ∧ Q r0 := by
  have hnf := hf.ilen
  subst hnf
  refine calls_swap ?_
  refine calls_of_W (vs := [.agg #[.int .i64 Pf, .int .i64 Mf, .slice Af mf.length kf], .int .i64 x, .int .i64 d]) [6] Try.func15 rfl rfl rfl rfl ?_
  have hS := St.start w
  unfold V_TowerHilbert at hv
  refine W.seq ?_
  refine W.region ?_
  refine SL.box (z := 3) (cs := [.int .i64 Pf, .int .i64 Mf, .slice Af mf.length kf]) hS rfl rfl rfl rfl ?_
  intro g11 w12 hS
  refine WL.assign rfl rfl ?_
  refine WL.done ?_
  refine W.seq ?_
  refine W.seq ?_
  refine W.region ?_
  refine SL.call hS (ok_alive  hv) Try.func20 rfl Try.nm20 rfl rfl ?_
  rintro _ _ w13 ⟨r14, rfl, rfl, hv⟩ hGw13 hS
  change St _ _ _ _ [.row 24 3 (some ⟨g11, 0, none⟩) 1 1 [.int .i64 Pf, .int .i64 Mf, .slice Af mf.length kf]] at hS
  refine WL.not rfl rfl ?_
  refine WL.done ?_
  refine W.cond2 rfl (fun c15 => ?_) (fun c15 => ?_)
  · have hv := hv.1 (c15)
    refine W.seq ?_
    refine W.region ?_
    refine WL.assign rfl rfl ?_
    refine WL.done ?_
    refine W.ret ?_
    refine ⟨_, rfl, Fin.nil ?_⟩
    exact ⟨_, hS.ext, (hS.pick [] rfl).rows, News.of (hS.pick [] rfl).rows rfl, ⟨false, rfl, rfl, hv⟩⟩
  · have hv := hv.2 (c15)
    refine W.skip ?_
    refine W.seq ?_
    refine W.region ?_
    refine WL.loadV (cs := [.int .i64 Pf, .int .i64 Mf, .slice Af mf.length kf]) Try.el24 Try.agg24 rfl rfl (Own.vcells (hS.own (i := 0) rfl)) rfl ?_
    refine SL.call hS (ok_made (hS.ro hf) hv) Try.func21 rfl Try.nm21 rfl rfl ?_
    rintro _ _ w17 ⟨o, hv, hK⟩ hGw17 hS
    cases o with
    | none =>
      obtain ⟨rfl, rfl⟩ := hK
      change St _ _ _ _ [.row 24 3 (some ⟨g11, 0, none⟩) 1 1 [.int .i64 Pf, .int .i64 Mf, .slice Af mf.length kf]] at hS
      refine WL.assign rfl rfl ?_
      refine WL.done ?_
      refine W.seq ?_
      refine W.seq ?_
      refine W.region ?_
      refine WL.move rfl rfl ?_
      refine WL.eqlPn Try.underlying26 rfl rfl rfl rfl ?_
      refine WL.move rfl rfl ?_
      refine WL.pass rfl rfl rfl ?_
      refine WL.pass rfl rfl rfl ?_
      refine WL.pass rfl rfl rfl ?_
      refine WL.pass rfl rfl rfl ?_
      refine WL.pick rfl rfl rfl ?_
      refine WL.done ?_
      refine W.condT rfl ?_
      refine W.seq ?_
      refine W.region ?_
      refine WL.assign rfl rfl ?_
      refine WL.done ?_
      refine W.ret ?_
      refine ⟨_, rfl, Fin.nil ?_⟩
      exact ⟨_, hS.ext, (hS.pick [] rfl).rows, News.of (hS.pick [] rfl).rows rfl, ⟨true, rfl, rfl, hv⟩⟩
    | some F19 =>
      obtain ⟨ad20, lo21, hi22, rfl, rfl⟩ := hK
      change St _ _ _ _ [.ch lo21 hi22 (fun wz => GFX lo21 hi22 wz ad20 F19), .row 24 3 (some ⟨g11, 0, none⟩) 1 1 [.int .i64 Pf, .int .i64 Mf, .slice Af mf.length kf]] at hS
      refine WL.assign rfl rfl ?_
      refine WL.done ?_
      refine W.seq ?_
      refine W.seq ?_
      refine W.region ?_
      refine WL.move rfl rfl ?_
      refine WL.eqlPn Try.underlying26 rfl rfl rfl rfl ?_
      refine WL.move rfl rfl ?_
      refine WL.take rfl ?_
      refine WL.loadV (cs := [.int .i64 Pf, .int .i64 Mf, .slice Af mf.length kf]) Try.el24 Try.agg24 rfl rfl (Own.vcells (hS.own (i := 1) rfl)) rfl ?_
      refine WL.take rfl ?_
      refine WL.move rfl rfl ?_
      refine WL.take rfl ?_
      refine SL.call hS (ok_tdivides (hS.ro hf) hv) Try.func28 rfl Try.nm28 rfl rfl ?_
      rintro _ _ w25 ⟨r26, rfl, rfl, hv⟩ hGw25 hS
      change St _ _ _ _ [.ch lo21 hi22 (fun wz => GFX lo21 hi22 wz ad20 F19), .row 24 3 (some ⟨g11, 0, none⟩) 1 1 [.int .i64 Pf, .int .i64 Mf, .slice Af mf.length kf]] at hS
      refine WL.take rfl ?_
      refine WL.not rfl rfl ?_
      refine WL.pick rfl rfl rfl ?_
      refine WL.done ?_
      refine W.cond2 rfl (fun c27 => ?_) (fun c27 => ?_)
      · have hv := hv.1 (c27)
        refine W.seq ?_
        refine W.region ?_
        refine WL.assign rfl rfl ?_
        refine WL.done ?_
        refine W.ret ?_
        refine ⟨_, rfl, Fin.nil ?_⟩
        exact ⟨_, hS.ext, (hS.pick [] rfl).rows, News.of (hS.pick [] rfl).rows rfl, ⟨true, rfl, rfl, hv⟩⟩
      · have hv := hv.2 (c27)
        refine W.skip ?_
        refine W.seq ?_
        refine W.region ?_
        refine WL.loadV (cs := [.int .i64 Pf, .int .i64 Mf, .slice Af mf.length kf]) Try.el24 Try.agg24 rfl rfl (Own.vcells (hS.own (i := 1) rfl)) rfl ?_
        refine WL.move rfl rfl ?_
        refine SL.call hS (ok_rIn (hS.ro hf) hv) Try.func26 rfl Try.nm26 rfl rfl ?_
        rintro _ _ w28 ⟨r29, rfl, rfl, hv⟩ hGw28 hS
        change St _ _ _ _ [.ch lo21 hi22 (fun wz => GFX lo21 hi22 wz ad20 F19), .row 24 3 (some ⟨g11, 0, none⟩) 1 1 [.int .i64 Pf, .int .i64 Mf, .slice Af mf.length kf]] at hS
        refine WL.assign rfl rfl ?_
        refine WL.done ?_
        refine W.seq ?_
        refine W.region ?_
        refine WL.move rfl rfl ?_
        refine WL.move rfl rfl ?_
        refine WL.move rfl rfl ?_
        refine SL.call hS (ok_trace (GFX.gfr (hS.chunk (i := 0) rfl)) hv) Try.func46 rfl Try.nm46 rfl rfl ?_
        rintro _ _ w30 ⟨r31, r32, rfl, rfl, hv⟩ hGw30 hS
        change St _ _ _ _ [.ch lo21 hi22 (fun wz => GFX lo21 hi22 wz ad20 F19), .row 24 3 (some ⟨g11, 0, none⟩) 1 1 [.int .i64 Pf, .int .i64 Mf, .slice Af mf.length kf]] at hS
        refine WL.move rfl rfl ?_
        refine WL.extract rfl rfl rfl ?_
        refine WL.extract rfl rfl rfl ?_
        refine WL.assign rfl rfl ?_
        refine WL.assign rfl rfl ?_
        refine WL.done ?_
        refine W.seq ?_
        refine W.region ?_
        refine WL.move rfl rfl ?_
        refine WL.move rfl rfl ?_
        refine WL.move rfl rfl ?_
        refine SL.call hS (ok_norm (GFX.gfr (hS.chunk (i := 0) rfl)) hv) Try.func48 rfl Try.nm48 rfl rfl ?_
        rintro _ _ w33 ⟨r34, r35, rfl, rfl, hv⟩ hGw33 hS
        change St _ _ _ _ [.ch lo21 hi22 (fun wz => GFX lo21 hi22 wz ad20 F19), .row 24 3 (some ⟨g11, 0, none⟩) 1 1 [.int .i64 Pf, .int .i64 Mf, .slice Af mf.length kf]] at hS
        refine WL.move rfl rfl ?_
        refine WL.extract rfl rfl rfl ?_
        refine WL.extract rfl rfl rfl ?_
        refine WL.assign rfl rfl ?_
        refine WL.assign rfl rfl ?_
        refine WL.done ?_
        refine W.seq ?_
        refine W.region ?_
        refine WL.assign rfl rfl ?_
        refine WL.assign rfl rfl ?_
        refine WL.done ?_
        refine W.seq ?_
        refine W.seq ?_
        refine W.region ?_
        refine WL.loadV (cs := [.int .i64 Pf, .int .i64 Mf, .slice Af mf.length kf]) Try.el24 Try.agg24 rfl rfl (Own.vcells (hS.own (i := 1) rfl)) rfl ?_
        refine SL.call hS (ok_rOrder (hS.ro hf) hv) Try.func31 rfl Try.nm31 rfl rfl ?_
        rintro _ _ w36 ⟨r37, rfl, rfl, hv⟩ hGw36 hS
        change St _ _ _ _ [.ch lo21 hi22 (fun wz => GFX lo21 hi22 wz ad20 F19), .row 24 3 (some ⟨g11, 0, none⟩) 1 1 [.int .i64 Pf, .int .i64 Mf, .slice Af mf.length kf]] at hS
        refine WL.move rfl rfl ?_
        refine WL.done ?_
        refine W.block ?_
        obtain ⟨I49, μ50, hv, hk76⟩ := hv
        change St _ _ _ _ [.ch lo21 hi22 (fun wz => GFX lo21 hi22 wz ad20 F19), .row 24 3 (some ⟨g11, 0, none⟩) 1 1 [.int .i64 Pf, .int .i64 Mf, .slice Af mf.length kf]] at hS
        refine W.loop (σ := Bool × Bool × Int) (fun q w1 => match q with | (b46, b47, z48) => I49 b46 b47 z48 ∧ St TT w none w1 [.ch lo21 hi22 (fun wz => GFX lo21 hi22 wz ad20 F19), .row 24 3 (some ⟨g11, 0, none⟩) 1 1 [.int .i64 Pf, .int .i64 Mf, .slice Af mf.length kf]]) (fun q => match q with | (b46, b47, z48) => [(1, .int .i64 r29), (2, .int .i64 d), (3, .pointer (some ⟨g11, 0, none⟩)), (6, .bool false), (7, .pointer (some ad20)), (8, .int .i64 r31), (9, .int .i64 r32), (10, .int .i64 r34), (11, .int .i64 r35), (12, .bool b46), (13, .bool b47), (46, .int .i64 r37), (47, .int .i64 z48)]) (fun q => match q with | (b46, b47, z48) => μ50 b46 b47 z48) (false, false, (0 : Int)) ⟨hv, hS⟩ ⟨rfl, rfl, rfl, rfl, rfl, rfl, rfl, rfl, rfl, rfl, rfl, rfl, rfl, trivial⟩ ?_
        rintro ⟨b46, b47, z48⟩ w51 ⟨hv, hS⟩
        have hv := hk76 b46 b47 z48 hv
        refine W.seq ?_
        refine W.region ?_
        refine WL.lssD rfl rfl rfl ?_
        refine WL.done ?_
        refine W.seq ?_
        refine W.cond2 rfl (fun c52 => ?_) (fun c52 => ?_)
        · have hv := hv.1 (of_decide_eq_true c52)
          refine W.skip ?_
          refine W.seq ?_
          obtain ⟨J56, hv, hk72⟩ := hv
          refine W.cutN (σ := Bool × Bool × Int) (fun q w1 => match q with | (b53, b54, z55) => J56 b53 b54 z55 ∧ St TT w none w1 [.ch lo21 hi22 (fun wz => GFX lo21 hi22 wz ad20 F19), .row 24 3 (some ⟨g11, 0, none⟩) 1 1 [.int .i64 Pf, .int .i64 Mf, .slice Af mf.length kf]]) (fun q => match q with | (b53, b54, z55) => [(1, .int .i64 r29), (2, .int .i64 d), (3, .pointer (some ⟨g11, 0, none⟩)), (6, .bool false), (7, .pointer (some ad20)), (8, .int .i64 r31), (9, .int .i64 r32), (10, .int .i64 r34), (11, .int .i64 r35), (12, .bool b53), (13, .bool b54), (14, .int .i64 z48), (15, .int .i64 z55), (46, .int .i64 r37), (47, .int .i64 z48), (48, .bool (decide (z48 < r37)))]) ?_ ?_
          · refine W.block ?_
            refine W.seq ?_
            refine W.region ?_
            refine WL.move rfl rfl ?_
            refine WL.assign rfl rfl ?_
            refine WL.done ?_
            refine W.seq ?_
            refine W.region ?_
            refine WL.move rfl rfl ?_
            refine WL.move rfl rfl ?_
            refine WL.move rfl rfl ?_
            refine SL.call hS (ok_frob (GFX.gfr (hS.chunk (i := 0) rfl)) hv) Try.func22 rfl Try.nm22 rfl rfl ?_
            rintro _ _ w57 ⟨r58, rfl, rfl, hv⟩ hGw57 hS
            change St _ _ _ _ [.ch lo21 hi22 (fun wz => GFX lo21 hi22 wz ad20 F19), .row 24 3 (some ⟨g11, 0, none⟩) 1 1 [.int .i64 Pf, .int .i64 Mf, .slice Af mf.length kf]] at hS
            refine WL.assign rfl rfl ?_
            refine WL.done ?_
            refine W.seq ?_
            refine W.region ?_
            refine WL.move rfl rfl ?_
            refine WL.move rfl rfl ?_
            cases g59 : b46
            · have hv := hv.2 g59
              refine WL.take rfl ?_
              refine WL.loadV (cs := [.int .i64 Pf, .int .i64 Mf, .slice Af mf.length kf]) Try.el24 Try.agg24 rfl rfl (Own.vcells (hS.own (i := 1) rfl)) rfl ?_
              refine WL.take rfl ?_
              refine WL.move rfl rfl ?_
              refine WL.take rfl ?_
              refine WL.move rfl rfl ?_
              refine WL.take rfl ?_
              refine SL.call hS (ok_rSub (hS.ro hf) hv) Try.func50 rfl Try.nm50 rfl rfl ?_
              rintro _ _ w64 ⟨r65, rfl, rfl, hv⟩ hGw64 hS
              change St _ _ _ _ [.ch lo21 hi22 (fun wz => GFX lo21 hi22 wz ad20 F19), .row 24 3 (some ⟨g11, 0, none⟩) 1 1 [.int .i64 Pf, .int .i64 Mf, .slice Af mf.length kf]] at hS
              refine WL.take rfl ?_
              refine WL.move rfl rfl ?_
              refine WL.take rfl ?_
              refine WL.eqlD rfl rfl rfl ?_
              refine WL.pick rfl rfl rfl ?_
              refine WL.assign rfl rfl ?_
              refine WL.done ?_
              refine W.region ?_
              refine WL.move rfl rfl ?_
              refine WL.move rfl rfl ?_
              cases g66 : b47
              · have hv := hv.2 g66
                refine WL.take rfl ?_
                refine WL.move rfl rfl ?_
                refine WL.take rfl ?_
                refine WL.neqD rfl rfl rfl ?_
                refine WL.take rfl ?_
                refine WL.move rfl rfl ?_
                by_cases g67 : z48 ≠ (0 : Int)
                · have hv := hv.1 g67
                  rw [decide_eq_true g67]
                  refine WL.take rfl ?_
                  refine WL.loadV (cs := [.int .i64 Pf, .int .i64 Mf, .slice Af mf.length kf]) Try.el24 Try.agg24 rfl rfl (Own.vcells (hS.own (i := 1) rfl)) rfl ?_
                  refine WL.take rfl ?_
                  refine WL.move rfl rfl ?_
                  refine WL.take rfl ?_
                  refine WL.move rfl rfl ?_
                  refine WL.take rfl ?_
                  refine SL.call hS (ok_rMul (hS.ro hf) hv) Try.func25 rfl Try.nm25 rfl rfl ?_
                  rintro _ _ w68 ⟨r69, rfl, rfl, hv⟩ hGw68 hS
                  change St _ _ _ _ [.ch lo21 hi22 (fun wz => GFX lo21 hi22 wz ad20 F19), .row 24 3 (some ⟨g11, 0, none⟩) 1 1 [.int .i64 Pf, .int .i64 Mf, .slice Af mf.length kf]] at hS
                  refine WL.take rfl ?_
                  refine WL.move rfl rfl ?_
                  refine WL.take rfl ?_
                  refine WL.eqlD rfl rfl rfl ?_
                  refine WL.take rfl ?_
                  refine WL.pick rfl rfl rfl ?_
                  refine WL.pick rfl rfl rfl ?_
                  refine WL.assign rfl rfl ?_
                  refine WL.done ?_
                  change St _ _ _ _ [.ch lo21 hi22 (fun wz => GFX lo21 hi22 wz ad20 F19), .row 24 3 (some ⟨g11, 0, none⟩) 1 1 [.int .i64 Pf, .int .i64 Mf, .slice Af mf.length kf]] at hS
                  exact ⟨((decide (r65 = r29)), (decide (r69 = r58)), r58), ⟨rfl, rfl, rfl, rfl, rfl, rfl, rfl, rfl, rfl, rfl, rfl, rfl, rfl, rfl, rfl, rfl, trivial⟩, rfl, hv, hS⟩
                · have hv := hv.2 g67
                  rw [decide_eq_false g67]
                  refine WL.pass rfl rfl rfl ?_
                  refine WL.pass rfl rfl rfl ?_
                  refine WL.pass rfl rfl rfl ?_
                  refine WL.pass rfl rfl rfl ?_
                  refine WL.pass rfl rfl rfl ?_
                  refine WL.pass rfl rfl rfl ?_
                  refine WL.take rfl ?_
                  refine WL.pick rfl rfl rfl ?_
                  refine WL.pick rfl rfl rfl ?_
                  refine WL.assign rfl rfl ?_
                  refine WL.done ?_
                  change St _ _ _ _ [.ch lo21 hi22 (fun wz => GFX lo21 hi22 wz ad20 F19), .row 24 3 (some ⟨g11, 0, none⟩) 1 1 [.int .i64 Pf, .int .i64 Mf, .slice Af mf.length kf]] at hS
                  exact ⟨((decide (r65 = r29)), false, r58), ⟨rfl, rfl, rfl, rfl, rfl, rfl, rfl, rfl, rfl, rfl, rfl, rfl, rfl, rfl, rfl, rfl, trivial⟩, rfl, hv, hS⟩
              · have hv := hv.1 g66
                refine WL.pass rfl rfl rfl ?_
                refine WL.pass rfl rfl rfl ?_
                refine WL.pass rfl rfl rfl ?_
                refine WL.passU rfl rfl ?_
                refine WL.passU rfl rfl ?_
                refine WL.passU rfl rfl ?_
                refine WL.passU rfl rfl ?_
                refine WL.passU rfl rfl ?_
                refine WL.passU rfl rfl ?_
                refine WL.pass rfl rfl rfl ?_
                refine WL.pick rfl rfl rfl ?_
                refine WL.assign rfl rfl ?_
                refine WL.done ?_
                change St _ _ _ _ [.ch lo21 hi22 (fun wz => GFX lo21 hi22 wz ad20 F19), .row 24 3 (some ⟨g11, 0, none⟩) 1 1 [.int .i64 Pf, .int .i64 Mf, .slice Af mf.length kf]] at hS
                exact ⟨((decide (r65 = r29)), true, r58), ⟨rfl, rfl, rfl, rfl, rfl, rfl, rfl, rfl, rfl, rfl, rfl, rfl, rfl, rfl, rfl, rfl, trivial⟩, rfl, hv, hS⟩
            · have hv := hv.1 g59
              refine WL.pass rfl rfl rfl ?_
              refine WL.pass rfl rfl rfl ?_
              refine WL.pass rfl rfl rfl ?_
              refine WL.pass rfl rfl rfl ?_
              refine WL.pass rfl rfl rfl ?_
              refine WL.pass rfl rfl rfl ?_
              refine WL.pick rfl rfl rfl ?_
              refine WL.assign rfl rfl ?_
              refine WL.done ?_
              refine W.region ?_
              refine WL.move rfl rfl ?_
              refine WL.move rfl rfl ?_
              cases g60 : b47
              · have hv := hv.2 g60
                refine WL.take rfl ?_
                refine WL.move rfl rfl ?_
                refine WL.take rfl ?_
                refine WL.neqD rfl rfl rfl ?_
                refine WL.take rfl ?_
                refine WL.move rfl rfl ?_
                by_cases g61 : z48 ≠ (0 : Int)
                · have hv := hv.1 g61
                  rw [decide_eq_true g61]
                  refine WL.take rfl ?_
                  refine WL.loadV (cs := [.int .i64 Pf, .int .i64 Mf, .slice Af mf.length kf]) Try.el24 Try.agg24 rfl rfl (Own.vcells (hS.own (i := 1) rfl)) rfl ?_
                  refine WL.take rfl ?_
                  refine WL.move rfl rfl ?_
                  refine WL.take rfl ?_
                  refine WL.move rfl rfl ?_
                  refine WL.take rfl ?_
                  refine SL.call hS (ok_rMul (hS.ro hf) hv) Try.func25 rfl Try.nm25 rfl rfl ?_
                  rintro _ _ w62 ⟨r63, rfl, rfl, hv⟩ hGw62 hS
                  change St _ _ _ _ [.ch lo21 hi22 (fun wz => GFX lo21 hi22 wz ad20 F19), .row 24 3 (some ⟨g11, 0, none⟩) 1 1 [.int .i64 Pf, .int .i64 Mf, .slice Af mf.length kf]] at hS
                  refine WL.take rfl ?_
                  refine WL.move rfl rfl ?_
                  refine WL.take rfl ?_
                  refine WL.eqlD rfl rfl rfl ?_
                  refine WL.take rfl ?_
                  refine WL.pick rfl rfl rfl ?_
                  refine WL.pick rfl rfl rfl ?_
                  refine WL.assign rfl rfl ?_
                  refine WL.done ?_
                  change St _ _ _ _ [.ch lo21 hi22 (fun wz => GFX lo21 hi22 wz ad20 F19), .row 24 3 (some ⟨g11, 0, none⟩) 1 1 [.int .i64 Pf, .int .i64 Mf, .slice Af mf.length kf]] at hS
                  exact ⟨(true, (decide (r63 = r58)), r58), ⟨rfl, rfl, rfl, rfl, rfl, rfl, rfl, rfl, rfl, rfl, rfl, rfl, rfl, rfl, rfl, rfl, trivial⟩, rfl, hv, hS⟩
                · have hv := hv.2 g61
                  rw [decide_eq_false g61]
                  refine WL.pass rfl rfl rfl ?_
                  refine WL.pass rfl rfl rfl ?_
                  refine WL.pass rfl rfl rfl ?_
                  refine WL.pass rfl rfl rfl ?_
                  refine WL.pass rfl rfl rfl ?_
                  refine WL.pass rfl rfl rfl ?_
                  refine WL.take rfl ?_
                  refine WL.pick rfl rfl rfl ?_
                  refine WL.pick rfl rfl rfl ?_
                  refine WL.assign rfl rfl ?_
                  refine WL.done ?_
                  change St _ _ _ _ [.ch lo21 hi22 (fun wz => GFX lo21 hi22 wz ad20 F19), .row 24 3 (some ⟨g11, 0, none⟩) 1 1 [.int .i64 Pf, .int .i64 Mf, .slice Af mf.length kf]] at hS
                  exact ⟨(true, false, r58), ⟨rfl, rfl, rfl, rfl, rfl, rfl, rfl, rfl, rfl, rfl, rfl, rfl, rfl, rfl, rfl, rfl, trivial⟩, rfl, hv, hS⟩
              · have hv := hv.1 g60
                refine WL.pass rfl rfl rfl ?_
                refine WL.pass rfl rfl rfl ?_
                refine WL.pass rfl rfl rfl ?_
                refine WL.passU rfl rfl ?_
                refine WL.passU rfl rfl ?_
                refine WL.passU rfl rfl ?_
                refine WL.passU rfl rfl ?_
                refine WL.passU rfl rfl ?_
                refine WL.passU rfl rfl ?_
                refine WL.pass rfl rfl rfl ?_
                refine WL.pick rfl rfl rfl ?_
                refine WL.assign rfl rfl ?_
                refine WL.done ?_
                change St _ _ _ _ [.ch lo21 hi22 (fun wz => GFX lo21 hi22 wz ad20 F19), .row 24 3 (some ⟨g11, 0, none⟩) 1 1 [.int .i64 Pf, .int .i64 Mf, .slice Af mf.length kf]] at hS
                exact ⟨(true, true, r58), ⟨rfl, rfl, rfl, rfl, rfl, rfl, rfl, rfl, rfl, rfl, rfl, rfl, rfl, rfl, rfl, rfl, trivial⟩, rfl, hv, hS⟩
          · rintro ⟨b53, b54, z55⟩ w70 ⟨hv, hS⟩
            have hv := hk72 b53 b54 z55 hv
            refine W.region ?_
            obtain ⟨o71, hv⟩ := hv
            refine WL.add (r := (z48 + (1 : Int))) rfl rfl (wr o71) rfl ?_
            refine WL.move rfl rfl ?_
            refine WL.done ?_
            change St _ _ _ _ [.ch lo21 hi22 (fun wz => GFX lo21 hi22 wz ad20 F19), .row 24 3 (some ⟨g11, 0, none⟩) 1 1 [.int .i64 Pf, .int .i64 Mf, .slice Af mf.length kf]] at hS
            exact ⟨(b53, b54, (z48 + (1 : Int))), ⟨rfl, rfl, rfl, rfl, rfl, rfl, rfl, rfl, rfl, rfl, rfl, rfl, rfl, trivial⟩, hv.2, rfl, hv.1, hS⟩
        · have hv := hv.2 (of_decide_eq_false c52)
          refine W.exit ?_
          refine W.seq ?_
          refine W.region ?_
          refine WL.move rfl rfl ?_
          refine WL.eqlD rfl rfl rfl ?_
          refine WL.move rfl rfl ?_
          by_cases g73 : r32 = (0 : Int)
          · have hv := hv.1 g73
            rw [decide_eq_true g73]
            refine WL.take rfl ?_
            refine WL.move rfl rfl ?_
            refine WL.take rfl ?_
            refine WL.eqlD rfl rfl rfl ?_
            refine WL.pick rfl rfl rfl ?_
            refine WL.move rfl rfl ?_
            by_cases g74 : r35 = (0 : Int)
            · have hv := hv.1 g74
              rw [decide_eq_true g74]
              refine WL.take rfl ?_
              refine WL.move rfl rfl ?_
              refine WL.take rfl ?_
              refine WL.eqlD rfl rfl rfl ?_
              refine WL.take rfl ?_
              refine WL.move rfl rfl ?_
              refine WL.take rfl ?_
              refine WL.eqB (r := ((decide (r31 = (0 : Int))) == b46)) rfl rfl Try.underlying4 rfl rfl ?_
              refine WL.pick rfl rfl rfl ?_
              refine WL.move rfl rfl ?_
              rcases g75 : ((decide (r31 = (0 : Int))) == b46) with _ | _
              · have hv := hv.2 g75
                refine WL.pass rfl rfl rfl ?_
                refine WL.pass rfl rfl rfl ?_
                refine WL.pass rfl rfl rfl ?_
                refine WL.pass rfl rfl rfl ?_
                refine WL.pick rfl rfl rfl ?_
                refine WL.assign rfl rfl ?_
                refine WL.done ?_
                refine W.ret ?_
                refine ⟨_, rfl, Fin.nil ?_⟩
                exact ⟨_, hS.ext, (hS.pick [] rfl).rows, News.of (hS.pick [] rfl).rows rfl, ⟨false, rfl, rfl, hv⟩⟩
              · have hv := hv.1 g75
                refine WL.take rfl ?_
                refine WL.move rfl rfl ?_
                refine WL.take rfl ?_
                refine WL.eqlD rfl rfl rfl ?_
                refine WL.take rfl ?_
                refine WL.move rfl rfl ?_
                refine WL.take rfl ?_
                refine WL.eqB (r := ((decide (r34 = (1 : Int))) == b47)) rfl rfl Try.underlying4 rfl rfl ?_
                refine WL.pick rfl rfl rfl ?_
                refine WL.assign rfl rfl ?_
                refine WL.done ?_
                refine W.ret ?_
                refine ⟨_, rfl, Fin.nil ?_⟩
                exact ⟨_, hS.ext, (hS.pick [] rfl).rows, News.of (hS.pick [] rfl).rows rfl, ⟨((decide (r34 = (1 : Int))) == b47), rfl, rfl, hv⟩⟩
            · have hv := hv.2 g74
              rw [decide_eq_false g74]
              refine WL.pass rfl rfl rfl ?_
              refine WL.pass rfl rfl rfl ?_
              refine WL.pass rfl rfl rfl ?_
              refine WL.pass rfl rfl rfl ?_
              refine WL.pick rfl rfl rfl ?_
              refine WL.move rfl rfl ?_
              refine WL.pass rfl rfl rfl ?_
              refine WL.pass rfl rfl rfl ?_
              refine WL.pass rfl rfl rfl ?_
              refine WL.pass rfl rfl rfl ?_
              refine WL.pick rfl rfl rfl ?_
              refine WL.assign rfl rfl ?_
              refine WL.done ?_
              refine W.ret ?_
              refine ⟨_, rfl, Fin.nil ?_⟩
              exact ⟨_, hS.ext, (hS.pick [] rfl).rows, News.of (hS.pick [] rfl).rows rfl, ⟨false, rfl, rfl, hv⟩⟩
          · have hv := hv.2 g73
            rw [decide_eq_false g73]
            refine WL.pass rfl rfl rfl ?_
            refine WL.pass rfl rfl rfl ?_
            refine WL.pick rfl rfl rfl ?_
            refine WL.move rfl rfl ?_
            refine WL.pass rfl rfl rfl ?_
            refine WL.pass rfl rfl rfl ?_
            refine WL.pass rfl rfl rfl ?_
            refine WL.pass rfl rfl rfl ?_
            refine WL.pick rfl rfl rfl ?_
            refine WL.move rfl rfl ?_
            refine WL.pass rfl rfl rfl ?_
            refine WL.pass rfl rfl rfl ?_
            refine WL.pass rfl rfl rfl ?_
            refine WL.pass rfl rfl rfl ?_
            refine WL.pick rfl rfl rfl ?_
            refine WL.assign rfl rfl ?_
            refine WL.done ?_
            refine W.ret ?_
            refine ⟨_, rfl, Fin.nil ?_⟩
            exact ⟨_, hS.ext, (hS.pick [] rfl).rows, News.of (hS.pick [] rfl).rows rfl, ⟨false, rfl, rfl, hv⟩⟩
end Go.Proofs.Ythjpminlkcklgaa
set_option linter.unusedVariables false
set_option linter.unusedSimpArgs false
namespace Go.Proofs.Ythjpminlkcklgaa
section
variable {P M : Int} {mf : List Int} {p m v : Nat}
theorem v_rNeg (F : FV P M mf p m v) {x : Int} {Q : Int → Prop} (h : Q ((fneg p m (inE (p ^ m) x) : Nat) : Int)) : V_rNeg P M mf x Q := by
  have hp := F.p2
  have hp2 := F.p256
  have hm8 := F.m8
  have hx := inE_lt F.ring.pos x
  refine v_rDigits F ?_
  generalize inE (p ^ m) x = a at *
  have hla := dgi_len p m a
  rw [hla]
  refine ⟨fun l z => ∃ k : Nat, z = k ∧ k ≤ m ∧ l.length = m ∧ ∀ i, i < m → vo l i = if i < k then (vsm (-1) (dv p a)) i % (p : Int) else dv p a i, fun l z => (m - z).toNat, ⟨0, rfl, Nat.zero_le _, hla, fun i hi => by rw [if_neg (by omega), dgi_at hi]⟩, ?_⟩
  rintro l _ ⟨k, rfl, hk, hl, hv⟩
  dsimp only
  rw [gi_nat, si_nat]
  refine ⟨fun hlt => ?_, fun hge => v_rVal F hl (fun i hi => by rw [hv i hi, if_pos (by omega)]) h⟩
  rw [hv k (by omega), if_neg (by omega)]
  have c1 := dv_le (p := p) (by omega) a k
  rw [F.eP]
  refine ⟨⟨by omega, by omega⟩, small (by omega) (by omega), by omega, ⟨by omega, by omega⟩, small (by omega) (by omega), ⟨k + 1, by push_cast; rfl, by omega, by rw [List.length_set, hl], fun i hi => ?_⟩, by omega⟩
  rw [vo_set]
  by_cases hki : k = i
  · subst hki
    rw [if_pos ⟨rfl, by omega⟩, if_pos (by omega), Int.tmod_eq_emod_of_nonneg (by omega)]
    show _ = (-1 * dv p a k) % (p : Int)
    rw [show (p : Int) - dv p a k = -1 * dv p a k + p * 1 by omega, Int.add_mul_emod_self_left]
  · rw [if_neg (fun h => hki h.1), hv i hi]
    by_cases hik : i < k
    · rw [if_pos hik, if_pos (by omega)]
    · rw [if_neg hik, if_neg (by omega)]
theorem v_rSub (F : FV P M mf p m v) {x y : Int} {Q : Int → Prop} (h : Q ((fadd p m (inE (p ^ m) x) (fneg p m (inE (p ^ m) y)) : Nat) : Int)) : V_rSub P M mf x y Q := by
  refine ⟨_, v_rNeg F rfl, _, v_rAdd F rfl, ?_⟩
  rw [inE_nat (fneg_lt (by have := F.p2; omega) _)]; exact h
end
section
variable {P M : Int} {mf : List Int} {p m v : Nat}
end
end Go.Proofs.Ythjpminlkcklgaa
set_option linter.unusedVariables false
namespace Go.Proofs.Ythjpminlkcklgaa
namespace Cm
variable {q e : Nat} {o : Nat → Nat → Nat} (C : Cm q o e)
include C
theorem shift {f : Nat → Nat} (hf : ∀ i, f i < q) {n : Nat} (h : f n = f 0) : sO o e (fun i => f (i + 1)) n = sO o e f n := by
  cases n with
  | zero => rfl
  | succ n =>
    rw [C.head hf n]
    show o (sO o e (fun i => f (i + 1)) n) (f (n + 1)) = _
    rw [h, C.oc (C.lt _ n) (hf 0)]
end Cm
section
variable {q g p m : Nat} {A M : Nat → Nat → Nat}
theorem trc_add (R : CR q A M) (G : Gn q M g) (hp : IsLf p p) (hch : ∀ x, x < q → ns A x p = 0) {x y : Nat} (hx : x < q) (hy : y < q) (d t : Nat) : trc A M p d t (A x y) = A (trc A M p d t x) (trc A M p d t y) := by
  unfold trc
  rw [← R.add.two (fun i => R.pw_lt x _) (fun i => R.pw_lt y _)]
  exact sO_congr t fun i _ => R.fr_add G hp hch hx hy _
theorem nrm_mul (R : CR q A M) {x y : Nat} (hx : x < q) (hy : y < q) (d t : Nat) : nrm M p d t (M x y) = M (nrm M p d t x) (nrm M p d t y) := by
  unfold nrm
  rw [← R.mul.two (fun i => R.pw_lt x _) (fun i => R.pw_lt y _)]
  exact sO_congr t fun i _ => R.fr_mul hx hy _
/-- The trace is in the subfield. -/
theorem trc_in (R : CR q A M) (G : Gn q M g) (hp : IsLf p p) (hp0 : 0 < p) (hch : ∀ x, x < q → ns A x p = 0) {x d t : Nat} (hx : x < q) (hq : q = p ^ (d * t)) : pw M (trc A M p d t x) (p ^ d) = trc A M p d t x := by
  rw [trc_fr R G hp hp0 hch hx]
  unfold trc
  rw [← R.add.shift (f := fun i => pw M x (p ^ (d * i))) (fun i => R.pw_lt x _) (by show pw M x (p ^ (d * t)) = pw M x (p ^ (d * 0)); rw [R.fr_m G hq hx, Nat.mul_zero, R.fr_zero hx])]
  exact sO_congr t fun i _ => by rw [R.fr_comp hx, Nat.mul_succ, Nat.add_comm]
theorem nrm_in (R : CR q A M) (G : Gn q M g) {x d t : Nat} (hx : x < q) (hq : q = p ^ (d * t)) : pw M (nrm M p d t x) (p ^ d) = nrm M p d t x := by
  rw [nrm_fr R hx]
  unfold nrm
  rw [← R.mul.shift (f := fun i => pw M x (p ^ (d * i))) (fun i => R.pw_lt x _) (by show pw M x (p ^ (d * t)) = pw M x (p ^ (d * 0)); rw [R.fr_m G hq hx, Nat.mul_zero, R.fr_zero hx])]
  exact sO_congr t fun i _ => by rw [R.fr_comp hx, Nat.mul_succ, Nat.add_comm]
end
end Go.Proofs.Ythjpminlkcklgaa
set_option linter.unusedVariables false
namespace Go.Proofs.Ythjpminlkcklgaa
/-! ### Hilbert's theorem 90 -/
section
variable {q g p m u t : Nat} {A M : Nat → Nat → Nat}
theorem sum_mul (R : CR q A M) {f : Nat → Nat} (hf : ∀ i, f i < q) {c : Nat} (hc : c < q) (n : Nat) : M c (sO A 0 f n) = sO A 0 (fun i => M c (f i)) n :=
  R.add.hom hf (φ := fun z => M c z) (R.M0 hc) (fun h1 h2 => R.Md hc h1 h2) n
theorem sum_swap (R : CR q A M) {f : Nat → Nat → Nat} (hf : ∀ i j, f i j < q) (n : Nat) : ∀ k, sO A 0 (fun i => sO A 0 (fun j => f i j) n) k = sO A 0 (fun j => sO A 0 (fun i => f i j) k) n
  | 0 => (R.add.unit n).symm
  | k + 1 => by
    show A (sO A 0 (fun i => sO A 0 (fun j => f i j) n) k) (sO A 0 (fun j => f k j) n) = _
    rw [sum_swap R hf n k, ← R.add.two (fun j => R.add.lt _ k) (fun j => hf k j)]
    rfl
/-- Sums of powers. -/
theorem pw_sum (R : CR q A M) (G : Gn q M g) {k : Nat} (hk : pw M g k ≠ 1) : sO A 0 (fun a => pw M g (k * a)) (q - 1) = 0 := by
  have hr := R.pw_lt g k
  have hS := R.add.lt (fun a => pw M g (k * a)) (q - 1)
  have h1 : M (pw M g k) (sO A 0 (fun a => pw M g (k * a)) (q - 1)) = sO A 0 (fun a => pw M g (k * a)) (q - 1) := by
    rw [sum_mul R (fun a => R.pw_lt g _) hr, ← R.add.shift (f := fun a => pw M g (k * a)) (fun a => R.pw_lt g _) (by show pw M g (k * (q - 1)) = pw M g (k * 0); rw [Nat.mul_comm, ← R.pw_pw G.lt, G.one, R.one_pw, Nat.mul_zero]; rfl)]
    exact sO_congr _ fun a _ => by rw [← R.pw_add G.lt, Nat.mul_succ, Nat.add_comm]
  rcases Nat.eq_zero_or_pos (sO A 0 (fun a => pw M g (k * a)) (q - 1)) with h0 | h0
  · exact h0
  · exfalso
    obtain ⟨b, hb, eb⟩ := G.surj R h0 hS
    have h2 : M (pw M g b) (pw M g (q - 1 - b)) = 1 := by rw [← R.pw_add G.lt, show b + (q - 1 - b) = q - 1 by omega, G.one]
    rw [← eb] at h1
    have h3 : M (M (pw M g k) (pw M g b)) (pw M g (q - 1 - b)) = 1 := by rw [h1, h2]
    rw [R.Ma hr (R.pw_lt g b) (R.pw_lt g _), h2, R.M1 hr] at h3
    exact hk h3
theorem ones (R : CR q A M) : ∀ n, sO A 0 (fun _ => 1) n = ns A 1 n
  | 0 => rfl
  | n + 1 => by show A (sO A 0 (fun _ => 1) n) 1 = A (ns A 1 n) 1; rw [ones R n]
theorem ns_pm (R : CR q A M) (hch : ∀ x, x < q → ns A x p = 0) : ∀ j, ns A 1 (p * j) = 0
  | 0 => rfl
  | j + 1 => by rw [Nat.mul_succ, ns_add R R.one_lt, ns_pm R hch j, hch 1 R.one_lt, R.Az R.pos]
theorem ones_ne (R : CR q A M) (hch : ∀ x, x < q → ns A x p = 0) (hq : q = p ^ m) (hm : 0 < m) : ns A 1 (q - 1) ≠ 0 := fun h => by
  have hq1 := R.one_lt
  have h1 : ns A 1 (q - 1 + 1) = A (ns A 1 (q - 1)) 1 := rfl
  have h2 : ns A 1 q = 0 := by
    obtain ⟨n, rfl⟩ : ∃ n, m = n + 1 := ⟨m - 1, by omega⟩
    rw [hq, Nat.pow_succ, Nat.mul_comm]; exact ns_pm R hch _
  rw [show q - 1 + 1 = q by omega, h2, h, R.zA R.one_lt] at h1
  exact absurd h1 (by decide)
/-- Some element has a trace other than 0. -/
theorem tr_ne (R : CR q A M) (G : Gn q M g) (hch : ∀ x, x < q → ns A x p = 0) (hq : q = p ^ m) (hm : 0 < m) (hu : 2 ≤ u) (ht : 0 < t) (hqu : q = u ^ t) : ∃ z, z < q ∧ sO A 0 (fun i => pw M z (u ^ i)) t ≠ 0 := by
  refine Classical.byContradiction fun hno => ?_
  have hall : ∀ z, z < q → sO A 0 (fun i => pw M z (u ^ i)) t = 0 := fun z hz => Classical.byContradiction fun h => hno ⟨z, hz, h⟩
  obtain ⟨s, rfl⟩ : ∃ s, t = s + 1 := ⟨t - 1, by omega⟩
  have hup : ∀ i, 0 < u ^ i := fun i => Nat.pow_pos (by omega)
  have hlast : u ^ s ≤ q - 1 := by
    have : u ^ s * 2 ≤ u ^ (s + 1) := by rw [Nat.pow_succ]; exact Nat.mul_le_mul_left _ hu
    have := hup s
    omega
  -- the sum of y^k * tr y
  have h1 : sO A 0 (fun a => M (pw M g ((q - 1 - u ^ s) * a)) (sO A 0 (fun i => pw M (pw M g a) (u ^ i)) (s + 1))) (q - 1) = 0 := by
    rw [sO_congr (h := fun _ => 0) (q - 1) fun a _ => by rw [hall _ (R.pw_lt g a), R.M0 (R.pw_lt g _)]]
    exact R.add.unit _
  rw [sO_congr (h := fun a => sO A 0 (fun i => pw M g ((q - 1 - u ^ s + u ^ i) * a)) (s + 1)) (q - 1) fun a _ => by
    rw [sum_mul R (fun i => R.pw_lt _ _) (R.pw_lt g _)]
    exact sO_congr _ fun i _ => by rw [R.pw_pw G.lt, ← R.pw_add G.lt, Nat.add_mul, Nat.mul_comm a]] at h1
  rw [sum_swap R (f := fun a i => pw M g ((q - 1 - u ^ s + u ^ i) * a)) (fun _ _ => R.pw_lt g _)] at h1
  have h2 : sO A 0 (fun i => sO A 0 (fun a => pw M g ((q - 1 - u ^ s + u ^ i) * a)) (q - 1)) s = 0 := by
    rw [sO_congr (h := fun _ => 0) s fun i hi => by
      refine pw_sum R G ?_
      have hlt : u ^ i < u ^ s := Nat.pow_lt_pow_right (by omega) hi
      refine G.no _ ?_ ?_
      · have := hup i; omega
      · omega]
    exact R.add.unit _
  have h3 : sO A 0 (fun a => pw M g ((q - 1 - u ^ s + u ^ s) * a)) (q - 1) = ns A 1 (q - 1) := by
    rw [← ones R]
    exact sO_congr _ fun a _ => by rw [show q - 1 - u ^ s + u ^ s = q - 1 by omega, ← R.pw_pw G.lt, G.one, R.one_pw]
  have h4 : A (sO A 0 (fun i => sO A 0 (fun a => pw M g ((q - 1 - u ^ s + u ^ i) * a)) (q - 1)) s) (sO A 0 (fun a => pw M g ((q - 1 - u ^ s + u ^ s) * a)) (q - 1)) = 0 := h1
  rw [h2, h3, R.zA (by rw [← ones R]; exact R.add.lt _ _)] at h4
  exact ones_ne R hch hq hm h4
/-- An element of trace 1. -/
theorem tr_one (R : CR q A M) (G : Gn q M g) (hp : IsLf p p) (hch : ∀ x, x < q → ns A x p = 0) (hq : q = p ^ m) (hm : 0 < m) {d : Nat} (hd : 0 < d) (ht : 0 < t) (hdt : m = d * t) (hp2 : 2 ≤ p) : ∃ z, z < q ∧ trc A M p d t z = 1 := by
  have hu : 2 ≤ p ^ d := Nat.le_trans hp2 (by have := Nat.pow_le_pow_right (show 0 < p by omega) hd; simpa using this)
  obtain ⟨z, hz, hne⟩ := tr_ne R G hch hq hm hu ht (by rw [hq, hdt, Nat.pow_mul])
  have e : sO A 0 (fun i => pw M z ((p ^ d) ^ i)) t = trc A M p d t z := sO_congr t fun i _ => by rw [← Nat.pow_mul]
  rw [e] at hne
  have hw : trc A M p d t z < q := R.add.lt _ _
  have hwf := trc_in R G hp (by omega) hch hz (d := d) (t := t) (by rw [hq, hdt])
  generalize hW : trc A M p d t z = w at *
  obtain ⟨b, hb, eb⟩ := G.surj R (Nat.pos_of_ne_zero hne) hw
  have hi := R.pw_lt g (q - 1 - b)
  have h2 : M w (pw M g (q - 1 - b)) = 1 := by rw [← eb, ← R.pw_add G.lt, show b + (q - 1 - b) = q - 1 by omega, G.one]
  generalize pw M g (q - 1 - b) = w' at hi h2
  have hf : ∀ j, pw M w' (p ^ (d * j)) = w' := fun j => by
    have hwj : pw M w (p ^ (d * j)) = w := by
      have := R.fr_iter (P := p ^ d) hw (t := 1) (by rw [Nat.pow_one]; exact hwf) j
      rw [Nat.one_mul, ← Nat.pow_mul] at this; exact this
    have h3 := R.fr_mul (p := p) hw hi (d * j)
    rw [h2, R.one_pw, hwj] at h3
    have hW2 := R.pw_lt w' (p ^ (d * j))
    have h4 : M w' (M w (pw M w' (p ^ (d * j)))) = w' := by rw [← h3, R.M1 hi]
    rw [← R.Ma hi hw hW2, R.Mc hi hw, h2, R.I1 hW2] at h4
    exact h4
  refine ⟨M w' z, R.Ml _ _, ?_⟩
  have h5 : trc A M p d t (M w' z) = M w' w := by
    rw [← hW]
    unfold trc
    rw [sum_mul R (fun i => R.pw_lt z _) hi]
    exact sO_congr t fun i _ => by rw [R.fr_mul hi hz, hf i]
  rw [h5, R.Mc hi hw, h2]
/-- Of trace 0 is what is a difference. -/
theorem hil_add (R : CR q A M) (G : Gn q M g) (hp : IsLf p p) (hch : ∀ x, x < q → ns A x p = 0) (hq : q = p ^ m) (hm : 0 < m) {d : Nat} (hd : 0 < d) (ht : 0 < t) (hdt : m = d * t) (hp2 : 2 ≤ p) {x : Nat} (hx : x < q) (h : trc A M p d t x = 0) : ∃ y, y < q ∧ A (pw M y (p ^ d)) x = y := by
  obtain ⟨z, hz, h1⟩ := tr_one R G hp hch hq hm hd ht hdt hp2
  have hp0 : 0 < p := by omega
  have hF := fun w j => R.pw_lt (M := M) w (p ^ (d * j))
  have hs := fun j => R.add.lt (fun i => pw M x (p ^ (d * i))) j
  have hs1 : ∀ j, A (pw M (sO A 0 (fun i => pw M x (p ^ (d * i))) j) (p ^ d)) x = sO A 0 (fun i => pw M x (p ^ (d * i))) (j + 1) := fun j => by
    rw [R.add.head (fun i => R.pw_lt x _) j, R.Ac]
    show A x _ = A (pw M x (p ^ (d * 0))) _
    rw [Nat.mul_zero, R.fr_zero hx, R.add.hom (fun i => R.pw_lt x _) (φ := fun w => pw M w (p ^ d)) (R.zero_pw (Nat.pow_pos hp0)) (fun a b => R.fr_add G hp hch a b d)]
    congr 1
    exact sO_congr j fun i _ => by rw [R.fr_comp hx, Nat.mul_succ]
  have hq2 : q = p ^ (d * t) := by rw [hq, hdt]
  have hzt : pw M z (p ^ (d * t)) = z := R.fr_m G hq2 hz
  have hf : ∀ j, M (sO A 0 (fun i => pw M x (p ^ (d * i))) j) (pw M z (p ^ (d * j))) < q := fun j => R.Ml _ _
  refine ⟨sO A 0 (fun j => M (sO A 0 (fun i => pw M x (p ^ (d * i))) j) (pw M z (p ^ (d * j)))) t, R.add.lt _ _, ?_⟩
  rw [R.add.hom hf (φ := fun w => pw M w (p ^ d)) (R.zero_pw (Nat.pow_pos hp0)) (fun a b => R.fr_add G hp hch a b d)]
  have hx1 : x = sO A 0 (fun j => M x (pw M z (p ^ (d * (j + 1))))) t := by
    rw [← sum_mul R (fun j => R.pw_lt z _) hx, R.add.shift (f := fun j => pw M z (p ^ (d * j))) (fun j => R.pw_lt z _) (by show pw M z (p ^ (d * t)) = pw M z (p ^ (d * 0)); rw [hzt, Nat.mul_zero, R.fr_zero hz])]
    show x = M x (trc A M p d t z)
    rw [h1, R.M1 hx]
  have key : A (sO A 0 (fun j => pw M (M (sO A 0 (fun i => pw M x (p ^ (d * i))) j) (pw M z (p ^ (d * j)))) (p ^ d)) t) (sO A 0 (fun j => M x (pw M z (p ^ (d * (j + 1))))) t) = sO A 0 (fun j => M (sO A 0 (fun i => pw M x (p ^ (d * i))) j) (pw M z (p ^ (d * j)))) t := by
    rw [← R.add.two (fun j => R.pw_lt _ _) (fun j => R.Ml _ _)]
    rw [← R.add.shift (f := fun j => M (sO A 0 (fun i => pw M x (p ^ (d * i))) j) (pw M z (p ^ (d * j)))) hf (by
      show M (trc A M p d t x) _ = M 0 _
      rw [h, R.Z0 (R.pw_lt z _), R.Z0 (R.pw_lt z _)])]
    refine sO_congr t fun j _ => ?_
    have hn : M x (pw M z (p ^ (d * (j + 1)))) = M (pw M z (p ^ (d * (j + 1)))) x := R.Mc hx (R.pw_lt z _)
    rw [R.fr_mul (hs j) (R.pw_lt z _), R.fr_comp hz, ← hs1 j, ← Nat.mul_succ, Nat.succ_eq_add_one, R.Mc (R.pw_lt _ _) (R.pw_lt z _), hn, ← R.Md (R.pw_lt z _) (R.pw_lt _ _) hx, R.Mc (R.pw_lt z _) (R.Al _ _)]
  rw [← hx1] at key
  exact key
theorem nrm_pw (R : CR q A M) {x : Nat} (hx : x < q) (u : Nat) (hu : 0 < u) : ∀ n, ∃ N, u ^ n = 1 + (u - 1) * N ∧ sO M 1 (fun i => pw M x (u ^ i)) n = pw M x N
  | 0 => ⟨0, rfl, rfl⟩
  | n + 1 => by
    obtain ⟨N, h1, h2⟩ := nrm_pw R hx u hu n
    refine ⟨N + u ^ n, ?_, ?_⟩
    · obtain ⟨w, rfl⟩ : ∃ w, u = w + 1 := ⟨u - 1, by omega⟩
      rw [Nat.add_sub_cancel] at h1 ⊢
      rw [Nat.pow_succ]
      generalize (w + 1) ^ n = X at h1
      rw [Nat.mul_succ, Nat.mul_add, Nat.mul_comm X w]
      omega
    · show M (sO M 1 (fun i => pw M x (u ^ i)) n) (pw M x (u ^ n)) = _
      rw [h2, R.pw_add hx]
/-- Of norm 1 is what is a quotient. -/
theorem hil_mul (R : CR q A M) (G : Gn q M g) (hq : q = p ^ m) {d : Nat} (hd : 0 < d) (hdt : m = d * t) (hp2 : 2 ≤ p) {x : Nat} (hx : x < q) (h : nrm M p d t x = 1) : ∃ y, y < q ∧ y ≠ 0 ∧ M x y = pw M y (p ^ d) := by
  have hu : 2 ≤ p ^ d := Nat.le_trans hp2 (by have := Nat.pow_le_pow_right (show 0 < p by omega) hd; simpa using this)
  obtain ⟨N, h1, h2⟩ := nrm_pw R hx (p ^ d) (by omega) t
  have e : sO M 1 (fun i => pw M x ((p ^ d) ^ i)) t = nrm M p d t x := sO_congr t fun i _ => by rw [← Nat.pow_mul]
  rw [e, h] at h2
  have hq2 := R.q2
  rw [← Nat.pow_mul, ← hdt, ← hq] at h1
  generalize p ^ d = u at *
  have hN : q - 1 = (u - 1) * N := by omega
  have hNp : 0 < N := Nat.pos_of_ne_zero fun e => by rw [e] at hN; omega
  have hx0 : 0 < x := Nat.pos_of_ne_zero fun e => by
    rw [e, R.zero_pw hNp] at h2; exact absurd h2 (by decide)
  obtain ⟨a, ha, rfl⟩ := G.surj R hx0 hx
  rw [R.pw_pw G.lt, ← G.modp R (a * N)] at h2
  have h3 : a * N % (q - 1) = 0 := by
    rcases Nat.eq_zero_or_pos (a * N % (q - 1)) with h4 | h4
    · exact h4
    · exact absurd h2.symm (G.no _ h4 (Nat.mod_lt _ (by omega)))
  have h4 := Nat.mod_add_div (a * N) (q - 1)
  rw [h3, Nat.zero_add] at h4
  generalize a * N / (q - 1) = c at h4
  have h5 : a = (u - 1) * c := by
    have : N * ((u - 1) * c) = N * a := by rw [← Nat.mul_assoc, Nat.mul_comm N (u - 1), ← hN, h4, Nat.mul_comm]
    exact (Nat.eq_of_mul_eq_mul_left hNp this).symm
  refine ⟨pw M g c, R.pw_lt g c, G.ne0 R c, ?_⟩
  rw [R.pw_pw G.lt, ← R.pw_add G.lt, h5]
  obtain ⟨w, rfl⟩ : ∃ w, u = w + 1 := ⟨u - 1, by omega⟩
  rw [Nat.add_sub_cancel, Nat.mul_succ, Nat.mul_comm w c]
end
end Go.Proofs.Ythjpminlkcklgaa
set_option linter.unusedVariables false
set_option linter.unusedSimpArgs false
namespace Go.Proofs.Ythjpminlkcklgaa
section
variable {F : GFv} {p m v g : Nat} {P M : Int} {mf : List Int}
theorem neg_uniq (hF : FV P M mf p m v) {a b : Nat} (ha : a < p ^ m) (hb : b < p ^ m) (h : fadd p m a b = 0) : b = fneg p m a := by
  have R := hF.ring
  have hp := hF.p2
  have hn := fneg_lt (p := p) (m := m) (by omega) a
  have h1 : fadd p m (fadd p m b a) (fneg p m a) = b := by
    rw [R.Aa hb ha hn, fadd_neg (by omega) ha, R.Az hb]
  rw [R.Ac b a, h, R.zA hn] at h1
  exact h1.symm
theorem trc_zero (R : CR (p ^ m) (fadd p m) (fmul p m (dv p v))) (hp : 0 < p) (d t : Nat) : trc (fadd p m) (fmul p m (dv p v)) p d t 0 = 0 := by
  unfold trc
  rw [sO_congr (h := fun _ => 0) t fun i _ => R.zero_pw (Nat.pow_pos hp)]
  exact R.add.unit t
theorem hil1 (K : GFk F p m v g) (hF : FV P M mf p m v) {c t X : Nat} (hc : 0 < c) (hm : m = c * t) (hX : X < p ^ m) : trc (fadd p m) (fmul p m (dv p v)) p c t X = 0 ↔ ∃ y, y < p ^ m ∧ fadd p m (pw (fmul p m (dv p v)) y (p ^ c)) (fneg p m y) = X := by
  have R := hF.ring
  have hp := hF.p2
  have hm0 := hF.m0
  have ht : 0 < t := Nat.pos_of_ne_zero fun e => by rw [e, Nat.mul_zero] at hm; omega
  refine ⟨fun h => ?_, fun ⟨y, hy, h⟩ => ?_⟩
  · obtain ⟨Y, hY, e⟩ := hil_add R K.G hF.pr (chz hF) rfl hm0 hc ht hm hp hX h
    have hfl := R.pw_lt Y (p ^ c)
    have hn := fneg_lt (p := p) (m := m) (by omega) Y
    have hfn := R.pw_lt (fneg p m Y) (p ^ c)
    have e1 : fneg p m (fneg p m Y) = Y := (neg_uniq hF hn hY (by rw [R.Ac]; exact fadd_neg (by omega) hY)).symm
    have e2 : pw (fmul p m (dv p v)) (fneg p m Y) (p ^ c) = fneg p m (pw (fmul p m (dv p v)) Y (p ^ c)) := by
      refine neg_uniq hF hfl hfn ?_
      rw [← R.fr_add K.G hF.pr (chz hF) hY hn, fadd_neg (by omega) hY, R.zero_pw (Nat.pow_pos (by omega))]
    refine ⟨fneg p m Y, hn, ?_⟩
    rw [e1, e2]
    have h3 : fadd p m (fneg p m (pw (fmul p m (dv p v)) Y (p ^ c))) (fadd p m (pw (fmul p m (dv p v)) Y (p ^ c)) X) = X := by
      rw [← R.Aa (fneg_lt (by omega) _) hfl hX, R.Ac (fneg p m _), fadd_neg (by omega) hfl, R.zA hX]
    rw [e] at h3
    exact h3
  · have hn := fneg_lt (p := p) (m := m) (by omega) y
    rw [← h, trc_add R K.G hF.pr (chz hF) (R.pw_lt _ _) hn, ← trc_fr R K.G hF.pr (by omega) (chz hF) hy, trc_in R K.G hF.pr (by omega) (chz hF) hy (by rw [hm]), ← trc_add R K.G hF.pr (chz hF) hy hn, fadd_neg (by omega) hy]
    exact trc_zero R (by omega) c t
theorem hil2 (K : GFk F p m v g) (hF : FV P M mf p m v) {c t X : Nat} (hc : 0 < c) (hm : m = c * t) (hX : X < p ^ m) : nrm (fmul p m (dv p v)) p c t X = 1 ↔ ∃ y, y < p ^ m ∧ y ≠ 0 ∧ fmul p m (dv p v) X y = pw (fmul p m (dv p v)) y (p ^ c) := by
  have R := hF.ring
  have hp := hF.p2
  refine ⟨fun h => hil_mul R K.G rfl hc hm hp hX h, fun ⟨y, hy, hy0, h⟩ => ?_⟩
  obtain ⟨b, hb, eb⟩ := K.G.surj R (Nat.pos_of_ne_zero hy0) hy
  have hi := R.pw_lt g (p ^ m - 1 - b)
  have h2 : fmul p m (dv p v) y (pw (fmul p m (dv p v)) g (p ^ m - 1 - b)) = 1 := by rw [← eb, ← R.pw_add K.G.lt, show b + (p ^ m - 1 - b) = p ^ m - 1 by omega, K.G.one]
  generalize pw (fmul p m (dv p v)) g (p ^ m - 1 - b) = w at hi h2
  have h3 : fmul p m (dv p v) (nrm (fmul p m (dv p v)) p c t y) (nrm (fmul p m (dv p v)) p c t w) = 1 := by
    rw [← nrm_mul R hy hi, h2]
    unfold nrm
    rw [sO_congr (h := fun _ => 1) t fun i _ => R.one_pw _]
    exact R.mul.unit t
  have h4 : fmul p m (dv p v) (nrm (fmul p m (dv p v)) p c t X) (nrm (fmul p m (dv p v)) p c t y) = nrm (fmul p m (dv p v)) p c t y := by
    rw [← nrm_mul R hX hy, h, ← nrm_fr R hy, nrm_in R K.G hy (by rw [hm])]
  have hnX := nrm_lt R c t X
  have hny := nrm_lt R c t y
  have hnw := nrm_lt R c t w
  rw [← R.M1 hnX, ← h3, ← R.Ma hnX hny hnw, h4]
theorem ex_succ {D : Nat → Prop} {n : Nat} : (∃ y, y < n + 1 ∧ D y) ↔ (∃ y, y < n ∧ D y) ∨ D n :=
  ⟨fun ⟨y, h1, h2⟩ => by
    rcases Nat.lt_or_ge y n with h | h
    · exact .inl ⟨y, h, h2⟩
    · exact .inr (by rwa [show y = n by omega] at h2), fun h => by
    rcases h with ⟨y, h1, h2⟩ | h
    · exact ⟨y, by omega, h2⟩
    · exact ⟨n, by omega, h⟩⟩
theorem law_TowerHilbert (x d : Int) : V_TowerHilbert P M mf x d (fun b => b = true) := by
  refine w_alive (nb (w_made (fun _ => rfl) fun F p m v g K hF => ?_))
  have R := hF.ring
  have hX := inE_lt R.pos x
  have hp := hF.p2
  have hq := hF.q
  have hm8 := hF.m8
  refine w_tdivides hF (fun c t h1 hc hm => nb (v_rIn hF ?_)) fun hn => nf rfl
  subst h1
  have hcm := cm_le hF.m0 hm
  generalize inE (p ^ m) x = X at hX
  have hct : ∀ c' t' : Nat, (c : Int) = c' → m = c' * t' → c' = c ∧ t' = t := fun c' t' e h2 => by
    obtain rfl : c' = c := by omega
    exact ⟨rfl, Nat.eq_of_mul_eq_mul_left hc (h2.symm.trans hm)⟩
  refine w_trace K (fun hn => absurd ⟨c, t, rfl, hc, hm⟩ hn) fun c1 t1 e1 _ h11 => ?_
  obtain ⟨rfl, rfl⟩ := hct c1 t1 e1 h11
  refine w_norm K (fun hn => absurd ⟨c1, t1, rfl, hc, hm⟩ hn) fun c2 t2 e2 _ h22 => ?_
  obtain ⟨rfl, rfl⟩ := hct c2 t2 e2 h22
  rw [inE_nat hX]
  refine v_rOrder ?_
  rw [hF.ord]
  refine ⟨fun b b' z => ∃ n : Nat, z = n ∧ n ≤ p ^ m ∧ (b = true ↔ ∃ y, y < n ∧ fadd p m (pw (fmul p m (dv p v)) y (p ^ c2)) (fneg p m y) = X) ∧ (b' = true ↔ ∃ y, y < n ∧ y ≠ 0 ∧ fmul p m (dv p v) X y = pw (fmul p m (dv p v)) y (p ^ c2)), fun b b' z => (((p ^ m : Nat) : Int) - z).toNat, ⟨0, rfl, Nat.zero_le _, ⟨fun h => absurd h (by decide), fun ⟨y, h, _⟩ => absurd h (Nat.not_lt_zero y)⟩, ⟨fun h => absurd h (by decide), fun ⟨y, h, _⟩ => absurd h (Nat.not_lt_zero y)⟩⟩, ?_⟩
  rintro b b' _ ⟨n, rfl, hn, hb, hb'⟩
  dsimp only
  refine ⟨fun hlt => ?_, fun hge => ?_⟩
  · have hnq : n < p ^ m := Int.ofNat_lt.1 hlt
    refine ⟨fun b b' _ => (b = true ↔ (∃ y, y < n ∧ fadd p m (pw (fmul p m (dv p v)) y (p ^ c2)) (fneg p m y) = X) ∨ fadd p m (pw (fmul p m (dv p v)) n (p ^ c2)) (fneg p m n) = X) ∧ (b' = true ↔ (∃ y, y < n ∧ y ≠ 0 ∧ fmul p m (dv p v) X y = pw (fmul p m (dv p v)) y (p ^ c2)) ∨ (n ≠ 0 ∧ fmul p m (dv p v) X n = pw (fmul p m (dv p v)) n (p ^ c2))), w_frobN K (by omega) ?_, fun a a' z hz => ⟨small (by omega) (by omega), ⟨n + 1, by push_cast; rfl, by omega, hz.1.trans ex_succ.symm, hz.2.trans ex_succ.symm⟩, by omega⟩⟩
    rw [inE_nat hnq]
    have hfl := R.pw_lt n (p ^ c2)
    have cb : ∀ h : b = true, (true = true ↔ (∃ y, y < n ∧ fadd p m (pw (fmul p m (dv p v)) y (p ^ c2)) (fneg p m y) = X) ∨ fadd p m (pw (fmul p m (dv p v)) n (p ^ c2)) (fneg p m n) = X) := fun h => ⟨fun _ => .inl (hb.1 h), fun _ => rfl⟩
    have cb' : ∀ h : b' = true, (true = true ↔ (∃ y, y < n ∧ y ≠ 0 ∧ fmul p m (dv p v) X y = pw (fmul p m (dv p v)) y (p ^ c2)) ∨ (n ≠ 0 ∧ fmul p m (dv p v) X n = pw (fmul p m (dv p v)) n (p ^ c2))) := fun h => ⟨fun _ => .inl (hb'.1 h), fun _ => rfl⟩
    have nb2 : ∀ h : b' = false, ¬ ∃ y, y < n ∧ y ≠ 0 ∧ fmul p m (dv p v) X y = pw (fmul p m (dv p v)) y (p ^ c2) := fun h h2 => by rw [hb'.2 h2] at h; exact absurd h (by decide)
    have nb1 : ∀ h : b = false, ¬ ∃ y, y < n ∧ fadd p m (pw (fmul p m (dv p v)) y (p ^ c2)) (fneg p m y) = X := fun h h2 => by rw [hb.2 h2] at h; exact absurd h (by decide)
    have d1 : b' = false → (decide (((fmul p m (dv p v) X n : Nat) : Int) = ((pw (fmul p m (dv p v)) n (p ^ c2) : Nat) : Int)) = true ↔ fmul p m (dv p v) X n = pw (fmul p m (dv p v)) n (p ^ c2)) := fun _ => by
      rw [decide_eq_true_eq]; exact ⟨fun h => Int.ofNat.inj h, fun h => by rw [h]⟩
    have dm : b' = false → n ≠ 0 → (decide (((fmul p m (dv p v) X n : Nat) : Int) = ((pw (fmul p m (dv p v)) n (p ^ c2) : Nat) : Int)) = true ↔ (∃ y, y < n ∧ y ≠ 0 ∧ fmul p m (dv p v) X y = pw (fmul p m (dv p v)) y (p ^ c2)) ∨ (n ≠ 0 ∧ fmul p m (dv p v) X n = pw (fmul p m (dv p v)) n (p ^ c2))) := fun h hn0 =>
      (d1 h).trans ⟨fun h2 => .inr ⟨hn0, h2⟩, fun h2 => h2.elim (fun h3 => absurd h3 (nb2 h)) fun h3 => h3.2⟩
    have d0 : b' = false → ¬ n ≠ 0 → (false = true ↔ (∃ y, y < n ∧ y ≠ 0 ∧ fmul p m (dv p v) X y = pw (fmul p m (dv p v)) y (p ^ c2)) ∨ (n ≠ 0 ∧ fmul p m (dv p v) X n = pw (fmul p m (dv p v)) n (p ^ c2))) := fun h hn0 =>
      ⟨fun h2 => absurd h2 (by decide), fun h2 => h2.elim (fun h3 => absurd h3 (nb2 h)) fun h3 => absurd h3.1 hn0⟩
    have zne : ((n : Nat) : Int) ≠ 0 → n ≠ 0 := fun h e => h (by rw [e]; rfl)
    have zeq : ¬ ((n : Nat) : Int) ≠ 0 → ¬ n ≠ 0 := fun h e => h (by omega)
    refine ⟨fun h1 => ⟨fun h2 => ⟨cb h1, cb' h2⟩, fun h2 => ⟨fun hz => v_rMul hF ?_, fun hz => ⟨cb h1, d0 h2 (zeq hz)⟩⟩⟩, fun h1 => v_rSub hF ?_⟩
    · rw [inE_nat hX, inE_nat hnq]; exact ⟨cb h1, dm h2 (zne hz)⟩
    · rw [inE_nat hfl, inE_nat hnq]
      have ds : decide (((fadd p m (pw (fmul p m (dv p v)) n (p ^ c2)) (fneg p m n) : Nat) : Int) = ((X : Nat) : Int)) = true ↔ (∃ y, y < n ∧ fadd p m (pw (fmul p m (dv p v)) y (p ^ c2)) (fneg p m y) = X) ∨ fadd p m (pw (fmul p m (dv p v)) n (p ^ c2)) (fneg p m n) = X := by
        rw [decide_eq_true_eq]
        exact ⟨fun h => .inr (Int.ofNat.inj h), fun h => h.elim (fun h3 => absurd h3 (nb1 h1)) fun h3 => by rw [h3]⟩
      refine ⟨fun h2 => ⟨ds, cb' h2⟩, fun h2 => ⟨fun hz => v_rMul hF ?_, fun hz => ⟨ds, d0 h2 (zeq hz)⟩⟩⟩
      rw [inE_nat hX, inE_nat hnq]; exact ⟨ds, dm h2 (zne hz)⟩
  · obtain rfl : n = p ^ m := Nat.le_antisymm hn (Int.ofNat_le.1 (by omega))
    rw [← hil1 K hF hc hm hX] at hb
    rw [← hil2 K hF hc hm hX] at hb'
    have q1 : (decide (((trc (fadd p m) (fmul p m (dv p v)) p c2 t2 X : Nat) : Int) = 0) == b) = true := by
      cases b with
      | true => rw [decide_eq_true (by rw [hb.1 rfl]; rfl)]; rfl
      | false => rw [decide_eq_false (fun h => absurd (hb.2 (by omega)) (by decide))]; rfl
    have q2 : (decide (((nrm (fmul p m (dv p v)) p c2 t2 X : Nat) : Int) = 1) == b') = true := by
      cases b' with
      | true => rw [decide_eq_true (by rw [hb'.1 rfl]; rfl)]; rfl
      | false => rw [decide_eq_false (fun h => absurd (hb'.2 (by omega)) (by decide))]; rfl
    rw [q1, q2]
    exact ⟨fun _ => ⟨fun _ => ⟨fun _ => rfl, fun h => absurd h (by decide)⟩, fun h => absurd rfl h⟩, fun h => absurd rfl h⟩
end
end Go.Proofs.Ythjpminlkcklgaa
