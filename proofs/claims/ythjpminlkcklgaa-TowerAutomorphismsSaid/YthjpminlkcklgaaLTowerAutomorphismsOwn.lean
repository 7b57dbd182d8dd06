/- What only this law leans on. -/
import Derived.Test.YthjpminlkcklgaaTowerFrobeniusG9
namespace Go.Proofs.Ythjpminlkcklgaa
open Go.RowKit

section
variable {P : Program} {n : Nat} {ro : Option Nat} {df : List Deferred} {N : Post} {L : Fr} {w : World} {ops : Array Oper} {rest : List Oper}
variable {d : Nat} {ty : TypeId} {pos : String} {af : Array Edge}

theorem WL.neg {x : Operand} {k : IntKind} {a r : Int} {tx : TypeId} (hx : ev L x = some (.int k a)) (hr : k.wrap (0 - a) = r) (hn : Nat.blt d n = true) (h : WL P n ro df ops rest N ((d, .int k r) :: L) w) :
    WL P n ro df ops (⟨some d, .unOp .neg tx x, ty, pos, af, none⟩ :: rest) N L w :=
  WL.val rfl rfl hn (fun a ha => by simp [execOp, Op.unary, Op.intArith, ha.ev hx, ← hr]) h
end
end Go.Proofs.Ythjpminlkcklgaa
set_option linter.unusedSimpArgs false
set_option linter.unusedVariables false
namespace Go.Proofs.Ythjpminlkcklgaa
open Go.RowKit
theorem wrn {x : Int} (h : I64 (-x)) : IntKind.i64.wrap (0 - x) = -x := by rw [Int.zero_sub]; exact wr h
section
variable {X : World → Prop} {w0 w w' : World} {mr : Option Nat} {R : List Rw}
end
section
variable {P : Program} {n : Nat} {ro : Option Nat} {df : List Deferred} {N : Post} {L : Fr} {w w0 : World} {ops : Array Oper} {rest : List Oper}
variable {d : Nat} {ty : TypeId} {pos : String} {af : Array Edge}
end
end Go.Proofs.Ythjpminlkcklgaa
set_option linter.unusedSimpArgs false
set_option linter.unusedVariables false
namespace Go.Proofs.Ythjpminlkcklgaa
open Go.RowKit
def V_TowerAutomorphisms (Pf : Int) (Mf : Int) (mf : List Int) (v0 : Int) (v1 : Int) (k : Int) (Q : Bool → Prop) : Prop :=
  V_alive  (fun r16 => (((!r16) = true) → Q false) ∧ ((!r16) = false → (V_made Pf Mf mf (fun q => match q with | none => Q true | some F21 => ((k < (-1000 : Int)) → Q true) ∧ (¬ (k < (-1000 : Int)) → ((((1000 : Int) < k) → Q true) ∧ (¬ ((1000 : Int) < k) → (∃ (r34 : Int), V_frob F21 v0 k (fun q => q = r34) ∧ (∃ (r42 : Int), V_frob F21 v1 k (fun q => q = r42) ∧ (V_rAdd Pf Mf mf v0 v1 (fun r49 => V_frob F21 r49 k (fun r51 => V_rMul Pf Mf mf v0 v1 (fun r53 => V_frob F21 r53 k (fun r55 => ∃ (r61 : Int), V_rAdd Pf Mf mf r34 r42 (fun q => q = r61) ∧ ((r51 = r61) ∧ (∃ (r72 : Int), V_rMul Pf Mf mf r34 r42 (fun q => q = r72) ∧ ((r55 = r72) ∧ ((I64 (-k)) ∧ (∃ (r85 : Int), V_frob F21 r34 (-k) (fun q => q = r85) ∧ (∃ (r92 : Int), V_rIn Pf Mf mf v0 (fun q => q = r92) ∧ (Q (decide (r85 = r92)))))))))))))))))))))))
theorem ok_TowerAutomorphisms {w : World} {Q : Bool → Prop} {Pf : Int} {Mf : Int} {mf : List Int} {v0 : Int} {v1 : Int} {k : Int} {Bf : Nat} {Af : Option Addr} {nf kf : Nat} (hf : Rd Bf w 1 Af nf kf (is mf)) (hv : V_TowerAutomorphisms Pf Mf mf v0 v1 k Q) :
    Calls Try.prog 4 #[.agg #[.int .i64 Pf, .int .i64 Mf, .slice Af nf kf], .agg #[.int .i64 v0, .int .i64 v1], .int .i64 k] w fun e w' => ∃ v Qr, e = .returned v ∧ w.grownBy w' none ∧ Rows w.heap.size none w' Qr ∧ News w.heap.size Qr ∧ ∃ (r0 : Bool), v = .bool r0 ∧ Qr = [] ∧ Q r0 := by
  have hnf := hf.ilen
  subst hnf
  refine calls_swap ?_
  refine calls_of_W (vs := [.agg #[.int .i64 Pf, .int .i64 Mf, .slice Af mf.length kf], .agg #[.int .i64 v0, .int .i64 v1], .int .i64 k]) [6] Try.func4 rfl rfl rfl rfl ?_
  have hS := St.start w
  unfold V_TowerAutomorphisms at hv
  refine W.seq ?_
  refine W.region ?_
  refine SL.box (z := 3) (cs := [.int .i64 Pf, .int .i64 Mf, .slice Af mf.length kf]) hS rfl rfl rfl rfl ?_
  intro g11 w12 hS
  refine SL.box (z := 2) (cs := [.int .i64 v0, .int .i64 v1]) hS rfl rfl rfl rfl ?_
  intro g13 w14 hS
  refine WL.assign rfl rfl ?_
  refine WL.done ?_
  refine W.seq ?_
  refine W.seq ?_
  refine W.region ?_
  refine SL.call hS (ok_alive  hv) Try.func20 rfl Try.nm20 rfl rfl ?_
  rintro _ _ w15 ⟨r16, rfl, rfl, hv⟩ hGw15 hS
  change St _ _ _ _ [.row 31 2 (some ⟨g13, 0, none⟩) 1 1 [.int .i64 v0, .int .i64 v1], .row 24 3 (some ⟨g11, 0, none⟩) 1 1 [.int .i64 Pf, .int .i64 Mf, .slice Af mf.length kf]] at hS
  refine WL.not rfl rfl ?_
  refine WL.done ?_
  refine W.cond2 rfl (fun c17 => ?_) (fun c17 => ?_)
  · have hv := hv.1 (c17)
    refine W.seq ?_
    refine W.region ?_
    refine WL.assign rfl rfl ?_
    refine WL.done ?_
    refine W.ret ?_
    refine ⟨_, rfl, Fin.nil ?_⟩
    exact ⟨_, hS.ext, (hS.pick [] rfl).rows, News.of (hS.pick [] rfl).rows rfl, ⟨false, rfl, rfl, hv⟩⟩
  · have hv := hv.2 (c17)
    refine W.skip ?_
    refine W.seq ?_
    refine W.region ?_
    refine WL.loadV (cs := [.int .i64 Pf, .int .i64 Mf, .slice Af mf.length kf]) Try.el24 Try.agg24 rfl rfl (Own.vcells (hS.own (i := 1) rfl)) rfl ?_
    refine SL.call hS (ok_made (hS.ro hf) hv) Try.func21 rfl Try.nm21 rfl rfl ?_
    rintro _ _ w19 ⟨o, hv, hK⟩ hGw19 hS
    cases o with
    | none =>
      obtain ⟨rfl, rfl⟩ := hK
      change St _ _ _ _ [.row 31 2 (some ⟨g13, 0, none⟩) 1 1 [.int .i64 v0, .int .i64 v1], .row 24 3 (some ⟨g11, 0, none⟩) 1 1 [.int .i64 Pf, .int .i64 Mf, .slice Af mf.length kf]] at hS
      refine WL.assign rfl rfl ?_
      refine WL.done ?_
      refine W.seq ?_
      refine W.seq ?_
      refine W.region ?_
      refine WL.move rfl rfl ?_
      refine WL.eqlPn Try.underlying26 rfl rfl rfl rfl ?_
      refine WL.move rfl rfl ?_
      refine WL.pass rfl rfl rfl ?_
      refine WL.pass rfl rfl rfl ?_
      refine WL.pick rfl rfl rfl ?_
      refine WL.move rfl rfl ?_
      refine WL.pass rfl rfl rfl ?_
      refine WL.pass rfl rfl rfl ?_
      refine WL.pick rfl rfl rfl ?_
      refine WL.done ?_
      refine W.condT rfl ?_
      refine W.seq ?_
      refine W.region ?_
      refine WL.assign rfl rfl ?_
      refine WL.done ?_
      refine W.ret ?_
      refine ⟨_, rfl, Fin.nil ?_⟩
      exact ⟨_, hS.ext, (hS.pick [] rfl).rows, News.of (hS.pick [] rfl).rows rfl, ⟨true, rfl, rfl, hv⟩⟩
    | some F21 =>
      obtain ⟨ad22, lo23, hi24, rfl, rfl⟩ := hK
      change St _ _ _ _ [.ch lo23 hi24 (fun wz => GFX lo23 hi24 wz ad22 F21), .row 31 2 (some ⟨g13, 0, none⟩) 1 1 [.int .i64 v0, .int .i64 v1], .row 24 3 (some ⟨g11, 0, none⟩) 1 1 [.int .i64 Pf, .int .i64 Mf, .slice Af mf.length kf]] at hS
      refine WL.assign rfl rfl ?_
      refine WL.done ?_
      refine W.seq ?_
      refine W.seq ?_
      refine W.region ?_
      refine WL.move rfl rfl ?_
      refine WL.eqlPn Try.underlying26 rfl rfl rfl rfl ?_
      refine WL.move rfl rfl ?_
      refine WL.take rfl ?_
      refine WL.move rfl rfl ?_
      refine WL.take rfl ?_
      refine WL.lssD rfl rfl rfl ?_
      refine WL.pick rfl rfl rfl ?_
      refine WL.move rfl rfl ?_
      by_cases g27 : k < (-1000 : Int)
      · have hv := hv.1 g27
        rw [decide_eq_true g27]
        refine WL.pass rfl rfl rfl ?_
        refine WL.pass rfl rfl rfl ?_
        refine WL.pick rfl rfl rfl ?_
        refine WL.done ?_
        refine W.condT rfl ?_
        refine W.seq ?_
        refine W.region ?_
        refine WL.assign rfl rfl ?_
        refine WL.done ?_
        refine W.ret ?_
        refine ⟨_, rfl, Fin.nil ?_⟩
        exact ⟨_, hS.ext, (hS.pick [] rfl).rows, News.of (hS.pick [] rfl).rows rfl, ⟨true, rfl, rfl, hv⟩⟩
      · have hv := hv.2 g27
        rw [decide_eq_false g27]
        refine WL.take rfl ?_
        refine WL.move rfl rfl ?_
        refine WL.take rfl ?_
        refine WL.gtrD rfl rfl rfl ?_
        refine WL.pick rfl rfl rfl ?_
        refine WL.done ?_
        refine W.cond2 rfl (fun c28 => ?_) (fun c28 => ?_)
        · have hv := hv.1 (of_decide_eq_true c28)
          refine W.seq ?_
          refine W.region ?_
          refine WL.assign rfl rfl ?_
          refine WL.done ?_
          refine W.ret ?_
          refine ⟨_, rfl, Fin.nil ?_⟩
          exact ⟨_, hS.ext, (hS.pick [] rfl).rows, News.of (hS.pick [] rfl).rows rfl, ⟨true, rfl, rfl, hv⟩⟩
        · have hv := hv.2 (of_decide_eq_false c28)
          refine W.skip ?_
          refine W.seq ?_
          obtain ⟨r34, o36, hv⟩ := hv
          obtain ⟨r42, o44, hv⟩ := hv
          have hS0 := hS
          refine W.drawX 12 (fun _ => false) (fun _ => none) [⟨[], [7], true⟩, ⟨[], [4], true⟩, ⟨[1], [], false⟩, ⟨[], [2], true⟩, ⟨[0, 2, 3], [], false⟩, ⟨[], [7], true⟩, ⟨[], [4], true⟩, ⟨[6], [], false⟩, ⟨[], [2], true⟩, ⟨[5, 7, 8], [], false⟩, ⟨[4], [], true⟩, ⟨[9], [], true⟩] [[(7, .pointer (some ad22))], [(4, .pointer (some ⟨g13, 0, none⟩))], [], [(2, .int .i64 k)], [], [(7, .pointer (some ad22))], [(4, .pointer (some ⟨g13, 0, none⟩))], [], [(2, .int .i64 k)], [], [], []] (fun iQ => [fun v _ => v = .pointer (some ad22), fun v _ => v = .pointer (some ⟨g13, 0, none⟩), fun v _ => v = .int .i64 v0, fun v _ => v = .int .i64 k, fun v _ => v = .int .i64 r34, fun v _ => v = .pointer (some ad22), fun v _ => v = .pointer (some ((⟨g13, 0, none⟩ : Addr).add 1)), fun v _ => v = .int .i64 v1, fun v _ => v = .int .i64 k, fun v _ => v = .int .i64 r42, fun v _ => v = .int .i64 r34, fun v _ => v = .int .i64 r42].getD iQ (fun _ _ => True)) Try.mixed (by kernel_rfl) ?_ (by kernel_rfl) ?_ ?_
          · refine Vs_monoT _ ?_
            intro VQ hVQ vQ wQ1 wQ2 hQ1 hQ2
            simp only [List.mem_cons, List.not_mem_nil, or_false] at hVQ
            rcases hVQ with rfl | rfl | rfl | rfl | rfl | rfl | rfl | rfl | rfl | rfl | rfl | rfl
            · exact hQ1
            · exact hQ1
            · exact hQ1
            · exact hQ1
            · exact hQ1
            · exact hQ1
            · exact hQ1
            · exact hQ1
            · exact hQ1
            · exact hQ1
            · exact hQ1
            · exact hQ1
          · refine ⟨⟨rfl, ⟨rfl, trivial⟩, ?_⟩, ⟨rfl, ⟨rfl, trivial⟩, ?_⟩, ⟨rfl, trivial, ?_⟩, ⟨rfl, ⟨rfl, trivial⟩, ?_⟩, ⟨rfl, trivial, ?_⟩, ⟨rfl, ⟨rfl, trivial⟩, ?_⟩, ⟨rfl, ⟨rfl, trivial⟩, ?_⟩, ⟨rfl, trivial, ?_⟩, ⟨rfl, ⟨rfl, trivial⟩, ?_⟩, ⟨rfl, trivial, ?_⟩, ⟨rfl, trivial, ?_⟩, ⟨rfl, trivial, ?_⟩, trivial⟩
            · intro w29 hE
              intro RR
              refine WL.move rfl rfl ?_
              exact WL.done ⟨_, rfl, rfl, rfl, (fun h => absurd h (by decide)), (fun j h => by cases h)⟩
            · intro w30 hE
              intro RR
              refine WL.indexP 0 Try.arr31 rfl rfl rfl (by decide) rfl rfl ?_
              exact WL.done ⟨_, rfl, rfl, rfl, (fun h => absurd h (by decide)), (fun j h => by cases h)⟩
            · intro w31 hE
              have hE := hE rfl
              have hS := hS.grow hE
              rintro _ rfl
              intro RR
              refine WL.load Try.underlying3 rfl rfl (Own.vcells (hS.own (i := 1) rfl) 0 _ rfl) rfl ?_
              exact WL.done ⟨_, rfl, ext_refl _, rfl, (fun h => absurd h (by decide)), (fun j h => by cases h)⟩
            · intro w32 hE
              intro RR
              refine WL.move rfl rfl ?_
              exact WL.done ⟨_, rfl, rfl, rfl, (fun h => absurd h (by decide)), (fun j h => by cases h)⟩
            · intro w33 hE
              have hE := hE rfl
              have hS := hS.grow hE
              rintro _ rfl
              rintro _ rfl
              rintro _ rfl
              intro RR
              refine WL.call Try.func22 rfl Try.nm22 rfl rfl (calls_un (ok_frob (GFX.gfr (hS.chunk (i := 0) rfl)) o36)) ?_
              rintro _ w35 ⟨_, hGw35, hRww35, hNww35, r34q, rfl, rfl, he⟩
              subst he
              exact WL.done ⟨_, rfl, hGw35, rfl, (fun h => absurd h (by decide)), (fun j h => by cases h)⟩
            · intro w37 hE
              intro RR
              refine WL.move rfl rfl ?_
              exact WL.done ⟨_, rfl, rfl, rfl, (fun h => absurd h (by decide)), (fun j h => by cases h)⟩
            · intro w38 hE
              intro RR
              refine WL.indexP 1 Try.arr31 rfl rfl rfl (by decide) rfl rfl ?_
              exact WL.done ⟨_, rfl, rfl, rfl, (fun h => absurd h (by decide)), (fun j h => by cases h)⟩
            · intro w39 hE
              have hE := hE rfl
              have hS := hS.grow hE
              rintro _ rfl
              intro RR
              refine WL.load Try.underlying3 rfl rfl (Own.vcells (hS.own (i := 1) rfl) 1 _ rfl) rfl ?_
              exact WL.done ⟨_, rfl, ext_refl _, rfl, (fun h => absurd h (by decide)), (fun j h => by cases h)⟩
            · intro w40 hE
              intro RR
              refine WL.move rfl rfl ?_
              exact WL.done ⟨_, rfl, rfl, rfl, (fun h => absurd h (by decide)), (fun j h => by cases h)⟩
            · intro w41 hE
              have hE := hE rfl
              have hS := hS.grow hE
              rintro _ rfl
              rintro _ rfl
              rintro _ rfl
              intro RR
              refine WL.call Try.func22 rfl Try.nm22 rfl rfl (calls_un (ok_frob (GFX.gfr (hS.chunk (i := 0) rfl)) o44)) ?_
              rintro _ w43 ⟨_, hGw43, hRww43, hNww43, r42q, rfl, rfl, he⟩
              subst he
              exact WL.done ⟨_, rfl, hGw43, rfl, (fun h => absurd h (by decide)), (fun j h => by cases h)⟩
            · intro w45 hE
              rintro _ rfl
              intro RR
              refine WL.assign rfl rfl ?_
              exact WL.done ⟨_, rfl, rfl, rfl, (fun h => absurd h (by decide)), (fun j h => by cases h)⟩
            · intro w46 hE
              rintro _ rfl
              intro RR
              refine WL.assign rfl rfl ?_
              exact WL.done ⟨_, rfl, rfl, rfl, (fun h => absurd h (by decide)), (fun j h => by cases h)⟩
          · intro vals w47 hT hVs hAp hCp
            have hS := hS.grow hT
            have hv0 : vals 0 = _ := hVs 0 (by decide)
            have hv1 : vals 1 = _ := hVs 1 (by decide)
            have hv2 : vals 2 = _ := hVs 2 (by decide)
            have hv3 : vals 3 = _ := hVs 3 (by decide)
            have hv4 : vals 4 = _ := hVs 4 (by decide)
            have hv5 : vals 5 = _ := hVs 5 (by decide)
            have hv6 : vals 6 = _ := hVs 6 (by decide)
            have hv7 : vals 7 = _ := hVs 7 (by decide)
            have hv8 : vals 8 = _ := hVs 8 (by decide)
            have hv9 : vals 9 = _ := hVs 9 (by decide)
            have hv10 : vals 10 = _ := hVs 10 (by decide)
            have hv11 : vals 11 = _ := hVs 11 (by decide)
            rw [show (List.filterMap (fun i => Option.map (fun t => (t, vals i)) (dstAt _ i)) (List.range _)) = [(26, .pointer (some ad22)), (27, .pointer (some ⟨g13, 0, none⟩)), (28, .int .i64 v0), (29, .int .i64 k), (30, .int .i64 r34), (31, .pointer (some ad22)), (32, .pointer (some ((⟨g13, 0, none⟩ : Addr).add 1))), (33, .int .i64 v1), (34, .int .i64 k), (35, .int .i64 r42), (8, .int .i64 r34), (9, .int .i64 r42)] from by
              show [(26, vals 0), (27, vals 1), (28, vals 2), (29, vals 3), (30, vals 4), (31, vals 5), (32, vals 6), (33, vals 7), (34, vals 8), (35, vals 9), (8, vals 10), (9, vals 11)] = _
              rw [hv0, hv1, hv2, hv3, hv4, hv5, hv6, hv7, hv8, hv9, hv10, hv11]]
            refine WA.done (by decide +kernel) ?_
            refine W.seq ?_
            refine W.region ?_
            refine WL.move rfl rfl ?_
            refine WL.loadV (cs := [.int .i64 Pf, .int .i64 Mf, .slice Af mf.length kf]) Try.el24 Try.agg24 rfl rfl (Own.vcells (hS.own (i := 2) rfl)) rfl ?_
            refine WL.indexP 0 Try.arr31 rfl rfl rfl (by decide) rfl rfl ?_
            refine WL.load Try.underlying3 rfl rfl (Own.vcells (hS.own (i := 1) rfl) 0 _ rfl) rfl ?_
            refine WL.indexP 1 Try.arr31 rfl rfl rfl (by decide) rfl rfl ?_
            refine WL.load Try.underlying3 rfl rfl (Own.vcells (hS.own (i := 1) rfl) 1 _ rfl) rfl ?_
            refine SL.call hS (ok_rAdd (hS.ro hf) hv) Try.func24 rfl Try.nm24 rfl rfl ?_
            rintro _ _ w48 ⟨r49, rfl, rfl, hv⟩ hGw48 hS
            change St _ _ _ _ [.ch lo23 hi24 (fun wz => GFX lo23 hi24 wz ad22 F21), .row 31 2 (some ⟨g13, 0, none⟩) 1 1 [.int .i64 v0, .int .i64 v1], .row 24 3 (some ⟨g11, 0, none⟩) 1 1 [.int .i64 Pf, .int .i64 Mf, .slice Af mf.length kf]] at hS
            refine WL.move rfl rfl ?_
            refine SL.call hS (ok_frob (GFX.gfr (hS.chunk (i := 0) rfl)) hv) Try.func22 rfl Try.nm22 rfl rfl ?_
            rintro _ _ w50 ⟨r51, rfl, rfl, hv⟩ hGw50 hS
            change St _ _ _ _ [.ch lo23 hi24 (fun wz => GFX lo23 hi24 wz ad22 F21), .row 31 2 (some ⟨g13, 0, none⟩) 1 1 [.int .i64 v0, .int .i64 v1], .row 24 3 (some ⟨g11, 0, none⟩) 1 1 [.int .i64 Pf, .int .i64 Mf, .slice Af mf.length kf]] at hS
            refine WL.assign rfl rfl ?_
            refine WL.done ?_
            refine W.seq ?_
            refine W.region ?_
            refine WL.move rfl rfl ?_
            refine WL.loadV (cs := [.int .i64 Pf, .int .i64 Mf, .slice Af mf.length kf]) Try.el24 Try.agg24 rfl rfl (Own.vcells (hS.own (i := 2) rfl)) rfl ?_
            refine WL.indexP 0 Try.arr31 rfl rfl rfl (by decide) rfl rfl ?_
            refine WL.load Try.underlying3 rfl rfl (Own.vcells (hS.own (i := 1) rfl) 0 _ rfl) rfl ?_
            refine WL.indexP 1 Try.arr31 rfl rfl rfl (by decide) rfl rfl ?_
            refine WL.load Try.underlying3 rfl rfl (Own.vcells (hS.own (i := 1) rfl) 1 _ rfl) rfl ?_
            refine SL.call hS (ok_rMul (hS.ro hf) hv) Try.func25 rfl Try.nm25 rfl rfl ?_
            rintro _ _ w52 ⟨r53, rfl, rfl, hv⟩ hGw52 hS
            change St _ _ _ _ [.ch lo23 hi24 (fun wz => GFX lo23 hi24 wz ad22 F21), .row 31 2 (some ⟨g13, 0, none⟩) 1 1 [.int .i64 v0, .int .i64 v1], .row 24 3 (some ⟨g11, 0, none⟩) 1 1 [.int .i64 Pf, .int .i64 Mf, .slice Af mf.length kf]] at hS
            refine WL.move rfl rfl ?_
            refine SL.call hS (ok_frob (GFX.gfr (hS.chunk (i := 0) rfl)) hv) Try.func22 rfl Try.nm22 rfl rfl ?_
            rintro _ _ w54 ⟨r55, rfl, rfl, hv⟩ hGw54 hS
            change St _ _ _ _ [.ch lo23 hi24 (fun wz => GFX lo23 hi24 wz ad22 F21), .row 31 2 (some ⟨g13, 0, none⟩) 1 1 [.int .i64 v0, .int .i64 v1], .row 24 3 (some ⟨g11, 0, none⟩) 1 1 [.int .i64 Pf, .int .i64 Mf, .slice Af mf.length kf]] at hS
            refine WL.assign rfl rfl ?_
            refine WL.done ?_
            refine W.seq ?_
            obtain ⟨r61, o63, hv⟩ := hv
            obtain ⟨o65, hv⟩ := hv
            obtain ⟨r72, o74, hv⟩ := hv
            obtain ⟨o76, hv⟩ := hv
            obtain ⟨o83, hv⟩ := hv
            obtain ⟨r85, o87, hv⟩ := hv
            obtain ⟨r92, o94, hv⟩ := hv
            have hS0 := hS
            refine W.drawX 27 (fun _ => false) (fun _ => none) [⟨[], [10], true⟩, ⟨[], [3], false⟩, ⟨[], [8], true⟩, ⟨[], [9], true⟩, ⟨[1, 2, 3], [], false⟩, ⟨[0, 4], [], true⟩, ⟨[5], [], true⟩, ⟨[6], [11], true⟩, ⟨[6], [3], false⟩, ⟨[6], [8], true⟩, ⟨[6], [9], true⟩, ⟨[6, 8, 9, 10], [], false⟩, ⟨[6, 7, 11], [], true⟩, ⟨[6, 12], [], true⟩, ⟨[13], [], true⟩, ⟨[14], [7], true⟩, ⟨[14], [8], true⟩, ⟨[14], [2], true⟩, ⟨[14, 17], [], true⟩, ⟨[14, 15, 16, 18], [], false⟩, ⟨[14], [3], false⟩, ⟨[14], [4], true⟩, ⟨[14, 21], [], false⟩, ⟨[14, 20, 22], [], false⟩, ⟨[14, 19, 23], [], true⟩, ⟨[14, 24], [], true⟩, ⟨[25], [], true⟩] [[(10, .int .i64 r51)], [(3, .pointer (some ⟨g11, 0, none⟩))], [(8, .int .i64 r34)], [(9, .int .i64 r42)], [], [], [], [(11, .int .i64 r55)], [(3, .pointer (some ⟨g11, 0, none⟩))], [(8, .int .i64 r34)], [(9, .int .i64 r42)], [], [], [], [], [(7, .pointer (some ad22))], [(8, .int .i64 r34)], [(2, .int .i64 k)], [], [], [(3, .pointer (some ⟨g11, 0, none⟩))], [(4, .pointer (some ⟨g13, 0, none⟩))], [], [], [], [], []] (fun iQ => [fun v _ => v = .int .i64 r51, fun v _ => v = .agg #[.int .i64 Pf, .int .i64 Mf, .slice Af mf.length kf], fun v _ => v = .int .i64 r34, fun v _ => v = .int .i64 r42, fun v _ => v = .int .i64 r61, fun v _ => v = .bool true, fun v _ => v = .bool true, fun v _ => v = .int .i64 r55, fun v _ => v = .agg #[.int .i64 Pf, .int .i64 Mf, .slice Af mf.length kf], fun v _ => v = .int .i64 r34, fun v _ => v = .int .i64 r42, fun v _ => v = .int .i64 r72, fun v _ => v = .bool true, fun v _ => v = .bool true, fun v _ => v = .bool true, fun v _ => v = .pointer (some ad22), fun v _ => v = .int .i64 r34, fun v _ => v = .int .i64 k, fun v _ => v = .int .i64 (-k), fun v _ => v = .int .i64 r85, fun v _ => v = .agg #[.int .i64 Pf, .int .i64 Mf, .slice Af mf.length kf], fun v _ => v = .pointer (some ⟨g13, 0, none⟩), fun v _ => v = .int .i64 v0, fun v _ => v = .int .i64 r92, fun v _ => v = .bool (decide (r85 = r92)), fun v _ => v = .bool (decide (r85 = r92)), fun v _ => v = .bool (decide (r85 = r92))].getD iQ (fun _ _ => True)) Try.mixed (by kernel_rfl) ?_ (by kernel_rfl) ?_ ?_
            · refine Vs_monoT _ ?_
              intro VQ hVQ vQ wQ1 wQ2 hQ1 hQ2
              simp only [List.mem_cons, List.not_mem_nil, or_false] at hVQ
              rcases hVQ with rfl | rfl | rfl | rfl | rfl | rfl | rfl | rfl | rfl | rfl | rfl | rfl | rfl | rfl | rfl | rfl | rfl | rfl | rfl | rfl | rfl | rfl | rfl | rfl | rfl | rfl | rfl
              · exact hQ1
              · exact hQ1
              · exact hQ1
              · exact hQ1
              · exact hQ1
              · exact hQ1
              · exact hQ1
              · exact hQ1
              · exact hQ1
              · exact hQ1
              · exact hQ1
              · exact hQ1
              · exact hQ1
              · exact hQ1
              · exact hQ1
              · exact hQ1
              · exact hQ1
              · exact hQ1
              · exact hQ1
              · exact hQ1
              · exact hQ1
              · exact hQ1
              · exact hQ1
              · exact hQ1
              · exact hQ1
              · exact hQ1
              · exact hQ1
            · refine ⟨⟨rfl, ⟨rfl, trivial⟩, ?_⟩, ⟨rfl, ⟨rfl, trivial⟩, ?_⟩, ⟨rfl, ⟨rfl, trivial⟩, ?_⟩, ⟨rfl, ⟨rfl, trivial⟩, ?_⟩, ⟨rfl, trivial, ?_⟩, ⟨rfl, trivial, ?_⟩, ⟨rfl, trivial, ?_⟩, ⟨rfl, ⟨rfl, trivial⟩, ?_⟩, ⟨rfl, ⟨rfl, trivial⟩, ?_⟩, ⟨rfl, ⟨rfl, trivial⟩, ?_⟩, ⟨rfl, ⟨rfl, trivial⟩, ?_⟩, ⟨rfl, trivial, ?_⟩, ⟨rfl, trivial, ?_⟩, ⟨rfl, trivial, ?_⟩, ⟨rfl, trivial, ?_⟩, ⟨rfl, ⟨rfl, trivial⟩, ?_⟩, ⟨rfl, ⟨rfl, trivial⟩, ?_⟩, ⟨rfl, ⟨rfl, trivial⟩, ?_⟩, ⟨rfl, trivial, ?_⟩, ⟨rfl, trivial, ?_⟩, ⟨rfl, ⟨rfl, trivial⟩, ?_⟩, ⟨rfl, ⟨rfl, trivial⟩, ?_⟩, ⟨rfl, trivial, ?_⟩, ⟨rfl, trivial, ?_⟩, ⟨rfl, trivial, ?_⟩, ⟨rfl, trivial, ?_⟩, ⟨rfl, trivial, ?_⟩, trivial⟩
              · intro w56 hE
                intro RR
                refine WL.move rfl rfl ?_
                exact WL.done ⟨_, rfl, rfl, rfl, (fun h => absurd h (by decide)), (fun j h => by cases h)⟩
              · intro w57 hE
                have hE := hE rfl
                have hS := hS.grow hE
                intro RR
                refine WL.loadV (cs := [.int .i64 Pf, .int .i64 Mf, .slice Af mf.length kf]) Try.el24 Try.agg24 rfl rfl (Own.vcells (hS.own (i := 2) rfl)) rfl ?_
                exact WL.done ⟨_, rfl, ext_refl _, rfl, (fun h => absurd h (by decide)), (fun j h => by cases h)⟩
              · intro w58 hE
                intro RR
                refine WL.move rfl rfl ?_
                exact WL.done ⟨_, rfl, rfl, rfl, (fun h => absurd h (by decide)), (fun j h => by cases h)⟩
              · intro w59 hE
                intro RR
                refine WL.move rfl rfl ?_
                exact WL.done ⟨_, rfl, rfl, rfl, (fun h => absurd h (by decide)), (fun j h => by cases h)⟩
              · intro w60 hE
                have hE := hE rfl
                have hS := hS.grow hE
                rintro _ rfl
                rintro _ rfl
                rintro _ rfl
                intro RR
                refine WL.call Try.func24 rfl Try.nm24 rfl rfl (calls_un (ok_rAdd (hS.ro hf) o63)) ?_
                rintro _ w62 ⟨_, hGw62, hRww62, hNww62, r61q, rfl, rfl, he⟩
                subst he
                exact WL.done ⟨_, rfl, hGw62, rfl, (fun h => absurd h (by decide)), (fun j h => by cases h)⟩
              · intro w64 hE
                rintro _ rfl
                rintro _ rfl
                intro RR
                refine WL.eqlD rfl rfl rfl ?_; rw [decide_eq_true o65]
                exact WL.done ⟨_, rfl, rfl, rfl, (fun h => absurd h (by decide)), (fun j h => by cases h)⟩
              · intro w66 hE
                rintro _ rfl
                intro RR
                refine WL.move rfl rfl ?_
                exact WL.done ⟨_, rfl, rfl, rfl, (fun h => absurd h (by decide)), (fun j h => by cases h)⟩
              · intro w67 hE
                rintro _ rfl
                intro RR
                refine WL.take rfl ?_
                refine WL.move rfl rfl ?_
                exact WL.done ⟨_, rfl, rfl, rfl, (fun h => absurd h (by decide)), (fun j h => by cases h)⟩
              · intro w68 hE
                have hE := hE rfl
                have hS := hS.grow hE
                rintro _ rfl
                intro RR
                refine WL.take rfl ?_
                refine WL.loadV (cs := [.int .i64 Pf, .int .i64 Mf, .slice Af mf.length kf]) Try.el24 Try.agg24 rfl rfl (Own.vcells (hS.own (i := 2) rfl)) rfl ?_
                exact WL.done ⟨_, rfl, ext_refl _, rfl, (fun h => absurd h (by decide)), (fun j h => by cases h)⟩
              · intro w69 hE
                rintro _ rfl
                intro RR
                refine WL.take rfl ?_
                refine WL.move rfl rfl ?_
                exact WL.done ⟨_, rfl, rfl, rfl, (fun h => absurd h (by decide)), (fun j h => by cases h)⟩
              · intro w70 hE
                rintro _ rfl
                intro RR
                refine WL.take rfl ?_
                refine WL.move rfl rfl ?_
                exact WL.done ⟨_, rfl, rfl, rfl, (fun h => absurd h (by decide)), (fun j h => by cases h)⟩
              · intro w71 hE
                have hE := hE rfl
                have hS := hS.grow hE
                rintro _ rfl
                rintro _ rfl
                rintro _ rfl
                rintro _ rfl
                intro RR
                refine WL.take rfl ?_
                refine WL.call Try.func25 rfl Try.nm25 rfl rfl (calls_un (ok_rMul (hS.ro hf) o74)) ?_
                rintro _ w73 ⟨_, hGw73, hRww73, hNww73, r72q, rfl, rfl, he⟩
                subst he
                exact WL.done ⟨_, rfl, hGw73, rfl, (fun h => absurd h (by decide)), (fun j h => by cases h)⟩
              · intro w75 hE
                rintro _ rfl
                rintro _ rfl
                rintro _ rfl
                intro RR
                refine WL.take rfl ?_
                refine WL.eqlD rfl rfl rfl ?_; rw [decide_eq_true o76]
                exact WL.done ⟨_, rfl, rfl, rfl, (fun h => absurd h (by decide)), (fun j h => by cases h)⟩
              · intro w77 hE
                rintro _ rfl
                rintro _ rfl
                intro RR
                refine WL.pick rfl rfl rfl ?_
                exact WL.done ⟨_, rfl, rfl, rfl, (fun h => absurd h (by decide)), (fun j h => by cases h)⟩
              · intro w78 hE
                rintro _ rfl
                intro RR
                refine WL.move rfl rfl ?_
                exact WL.done ⟨_, rfl, rfl, rfl, (fun h => absurd h (by decide)), (fun j h => by cases h)⟩
              · intro w79 hE
                rintro _ rfl
                intro RR
                refine WL.take rfl ?_
                refine WL.move rfl rfl ?_
                exact WL.done ⟨_, rfl, rfl, rfl, (fun h => absurd h (by decide)), (fun j h => by cases h)⟩
              · intro w80 hE
                rintro _ rfl
                intro RR
                refine WL.take rfl ?_
                refine WL.move rfl rfl ?_
                exact WL.done ⟨_, rfl, rfl, rfl, (fun h => absurd h (by decide)), (fun j h => by cases h)⟩
              · intro w81 hE
                rintro _ rfl
                intro RR
                refine WL.take rfl ?_
                refine WL.move rfl rfl ?_
                exact WL.done ⟨_, rfl, rfl, rfl, (fun h => absurd h (by decide)), (fun j h => by cases h)⟩
              · intro w82 hE
                rintro _ rfl
                rintro _ rfl
                intro RR
                refine WL.take rfl ?_
                refine WL.neg (r := (-k)) rfl (wrn o83) rfl ?_
                exact WL.done ⟨_, rfl, rfl, rfl, (fun h => absurd h (by decide)), (fun j h => by cases h)⟩
              · intro w84 hE
                have hE := hE rfl
                have hS := hS.grow hE
                rintro _ rfl
                rintro _ rfl
                rintro _ rfl
                rintro _ rfl
                intro RR
                refine WL.take rfl ?_
                refine WL.call Try.func22 rfl Try.nm22 rfl rfl (calls_un (ok_frob (GFX.gfr (hS.chunk (i := 0) rfl)) o87)) ?_
                rintro _ w86 ⟨_, hGw86, hRww86, hNww86, r85q, rfl, rfl, he⟩
                subst he
                exact WL.done ⟨_, rfl, hGw86, rfl, (fun h => absurd h (by decide)), (fun j h => by cases h)⟩
              · intro w88 hE
                have hE := hE rfl
                have hS := hS.grow hE
                rintro _ rfl
                intro RR
                refine WL.take rfl ?_
                refine WL.loadV (cs := [.int .i64 Pf, .int .i64 Mf, .slice Af mf.length kf]) Try.el24 Try.agg24 rfl rfl (Own.vcells (hS.own (i := 2) rfl)) rfl ?_
                exact WL.done ⟨_, rfl, ext_refl _, rfl, (fun h => absurd h (by decide)), (fun j h => by cases h)⟩
              · intro w89 hE
                rintro _ rfl
                intro RR
                refine WL.take rfl ?_
                refine WL.indexP 0 Try.arr31 rfl rfl rfl (by decide) rfl rfl ?_
                exact WL.done ⟨_, rfl, rfl, rfl, (fun h => absurd h (by decide)), (fun j h => by cases h)⟩
              · intro w90 hE
                have hE := hE rfl
                have hS := hS.grow hE
                rintro _ rfl
                rintro _ rfl
                intro RR
                refine WL.take rfl ?_
                refine WL.load Try.underlying3 rfl rfl (Own.vcells (hS.own (i := 1) rfl) 0 _ rfl) rfl ?_
                exact WL.done ⟨_, rfl, ext_refl _, rfl, (fun h => absurd h (by decide)), (fun j h => by cases h)⟩
              · intro w91 hE
                have hE := hE rfl
                have hS := hS.grow hE
                rintro _ rfl
                rintro _ rfl
                rintro _ rfl
                intro RR
                refine WL.take rfl ?_
                refine WL.call Try.func26 rfl Try.nm26 rfl rfl (calls_un (ok_rIn (hS.ro hf) o94)) ?_
                rintro _ w93 ⟨_, hGw93, hRww93, hNww93, r92q, rfl, rfl, he⟩
                subst he
                exact WL.done ⟨_, rfl, hGw93, rfl, (fun h => absurd h (by decide)), (fun j h => by cases h)⟩
              · intro w95 hE
                rintro _ rfl
                rintro _ rfl
                rintro _ rfl
                intro RR
                refine WL.take rfl ?_
                refine WL.eqlD rfl rfl rfl ?_
                exact WL.done ⟨_, rfl, rfl, rfl, (fun h => absurd h (by decide)), (fun j h => by cases h)⟩
              · intro w96 hE
                rintro _ rfl
                rintro _ rfl
                intro RR
                refine WL.pick rfl rfl rfl ?_
                exact WL.done ⟨_, rfl, rfl, rfl, (fun h => absurd h (by decide)), (fun j h => by cases h)⟩
              · intro w97 hE
                rintro _ rfl
                intro RR
                refine WL.assign rfl rfl ?_
                exact WL.done ⟨_, rfl, rfl, rfl, (fun h => absurd h (by decide)), (fun j h => by cases h)⟩
            · intro vals w98 hT hVs hAp hCp
              have hS := hS.grow hT
              have hv0 : vals 0 = _ := hVs 0 (by decide)
              have hv1 : vals 1 = _ := hVs 1 (by decide)
              have hv2 : vals 2 = _ := hVs 2 (by decide)
              have hv3 : vals 3 = _ := hVs 3 (by decide)
              have hv4 : vals 4 = _ := hVs 4 (by decide)
              have hv5 : vals 5 = _ := hVs 5 (by decide)
              have hv6 : vals 6 = _ := hVs 6 (by decide)
              have hv7 : vals 7 = _ := hVs 7 (by decide)
              have hv8 : vals 8 = _ := hVs 8 (by decide)
              have hv9 : vals 9 = _ := hVs 9 (by decide)
              have hv10 : vals 10 = _ := hVs 10 (by decide)
              have hv11 : vals 11 = _ := hVs 11 (by decide)
              have hv12 : vals 12 = _ := hVs 12 (by decide)
              have hv13 : vals 13 = _ := hVs 13 (by decide)
              have hv14 : vals 14 = _ := hVs 14 (by decide)
              have hv15 : vals 15 = _ := hVs 15 (by decide)
              have hv16 : vals 16 = _ := hVs 16 (by decide)
              have hv17 : vals 17 = _ := hVs 17 (by decide)
              have hv18 : vals 18 = _ := hVs 18 (by decide)
              have hv19 : vals 19 = _ := hVs 19 (by decide)
              have hv20 : vals 20 = _ := hVs 20 (by decide)
              have hv21 : vals 21 = _ := hVs 21 (by decide)
              have hv22 : vals 22 = _ := hVs 22 (by decide)
              have hv23 : vals 23 = _ := hVs 23 (by decide)
              have hv24 : vals 24 = _ := hVs 24 (by decide)
              have hv25 : vals 25 = _ := hVs 25 (by decide)
              have hv26 : vals 26 = _ := hVs 26 (by decide)
              rw [show (List.filterMap (fun i => Option.map (fun t => (t, vals i)) (dstAt _ i)) (List.range _)) = [(54, .int .i64 r51), (55, .agg #[.int .i64 Pf, .int .i64 Mf, .slice Af mf.length kf]), (56, .int .i64 r34), (57, .int .i64 r42), (58, .int .i64 r61), (59, .bool true), (60, .bool true), (61, .int .i64 r55), (62, .agg #[.int .i64 Pf, .int .i64 Mf, .slice Af mf.length kf]), (63, .int .i64 r34), (64, .int .i64 r42), (65, .int .i64 r72), (66, .bool true), (67, .bool true), (68, .bool true), (69, .pointer (some ad22)), (70, .int .i64 r34), (71, .int .i64 k), (72, .int .i64 (-k)), (73, .int .i64 r85), (74, .agg #[.int .i64 Pf, .int .i64 Mf, .slice Af mf.length kf]), (75, .pointer (some ⟨g13, 0, none⟩)), (76, .int .i64 v0), (77, .int .i64 r92), (78, .bool (decide (r85 = r92))), (79, .bool (decide (r85 = r92))), (6, .bool (decide (r85 = r92)))] from by
                show [(54, vals 0), (55, vals 1), (56, vals 2), (57, vals 3), (58, vals 4), (59, vals 5), (60, vals 6), (61, vals 7), (62, vals 8), (63, vals 9), (64, vals 10), (65, vals 11), (66, vals 12), (67, vals 13), (68, vals 14), (69, vals 15), (70, vals 16), (71, vals 17), (72, vals 18), (73, vals 19), (74, vals 20), (75, vals 21), (76, vals 22), (77, vals 23), (78, vals 24), (79, vals 25), (6, vals 26)] = _
                rw [hv0, hv1, hv2, hv3, hv4, hv5, hv6, hv7, hv8, hv9, hv10, hv11, hv12, hv13, hv14, hv15, hv16, hv17, hv18, hv19, hv20, hv21, hv22, hv23, hv24, hv25, hv26]]
              refine WA.done (by decide +kernel) ?_
              refine W.ret ?_
              refine ⟨_, rfl, Fin.nil ?_⟩
              exact ⟨_, hS.ext, (hS.pick [] rfl).rows, News.of (hS.pick [] rfl).rows rfl, ⟨(decide (r85 = r92)), rfl, rfl, hv⟩⟩

end Go.Proofs.Ythjpminlkcklgaa
set_option linter.unusedVariables false
set_option linter.unusedSimpArgs false
namespace Go.Proofs.Ythjpminlkcklgaa
section
variable {F : GFv} {p m v g : Nat} {P M : Int} {mf : List Int}
theorem law_TowerAutomorphisms (x y k : Int) : V_TowerAutomorphisms P M mf x y k (fun b => b = true) := by
  refine w_alive (nb (w_made (fun _ => rfl) fun F p m v g K hF => ⟨fun _ => rfl, fun hk1 => ⟨fun _ => rfl, fun hk2 => ?_⟩⟩))
  have R := hF.ring
  have hx := inE_lt R.pos x
  have hy := inE_lt R.pos y
  have hm0 := hF.m0
  have hm8 := hF.m8
  have hk : I64 k := small (by omega) (by omega)
  refine ⟨_, w_frob K hk rfl, _, w_frob K hk rfl, v_rAdd hF (w_frob K hk (v_rMul hF (w_frob K hk ⟨_, v_rAdd hF rfl, ?_, _, v_rMul hF rfl, ?_, small (by omega) (by omega), _, w_frob K (small (by omega) (by omega)) rfl, _, v_rIn hF rfl, decide_eq_true ?_⟩)))⟩
  · rw [inE_nat (R.Al _ _), inE_nat (R.pw_lt _ _), inE_nat (R.pw_lt _ _), R.fr_add K.G hF.pr (chz hF) hx hy]
  · rw [inE_nat (R.Ml _ _), inE_nat (R.pw_lt _ _), inE_nat (R.pw_lt _ _), R.fr_mul hx hy]
  · rw [inE_nat (R.pw_lt _ _), R.fr_comp hx]
    have hm : (m : Int) ≠ 0 := by omega
    have h1 := Int.emod_nonneg k hm
    have h2 := Int.emod_nonneg (-k) hm
    have h3 := Int.mul_ediv_add_emod k m
    have h4 := Int.mul_ediv_add_emod (-k) m
    obtain ⟨a, ha⟩ : ∃ a : Nat, k % (m : Int) = a := ⟨_, (Int.toNat_of_nonneg h1).symm⟩
    obtain ⟨b, hb⟩ : ∃ b : Nat, (-k) % (m : Int) = b := ⟨_, (Int.toNat_of_nonneg h2).symm⟩
    rw [ha, hb, Int.toNat_natCast, Int.toNat_natCast, ← R.fr_mod K.G rfl hx]
    have h5 : (a + b) % m = 0 := by
      have : ((a : Int) + (b : Int)) % (m : Int) = 0 := by
        rw [← ha, ← hb, ← Int.add_emod, Int.add_right_neg, Int.zero_emod]
      have h6 : (((a + b) % m : Nat) : Int) = 0 := by push_cast; exact this
      exact Int.ofNat.inj h6
    rw [h5, R.fr_zero hx]
end
end Go.Proofs.Ythjpminlkcklgaa
