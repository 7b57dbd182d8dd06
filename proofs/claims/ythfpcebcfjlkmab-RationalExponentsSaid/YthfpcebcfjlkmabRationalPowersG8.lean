/- Contracts of functions of the program, and what they lean on: W32. -/
import Derived.Test.YthfpcebcfjlkmabRationalPowersG7
set_option linter.unusedSimpArgs false
set_option linter.unusedVariables false
namespace Go.Proofs.Ythfpcebcfjlkmab
open Go.RowKit
set_option maxHeartbeats 4000000 in
theorem RationalPowers_z {w : World} {Ban : Nat} {Aan : Option Addr} {man can : Nat} {xan : List Nat} (han : Rd Ban w 1 Aan man can (us xan)) {Bad : Nat} {Aad : Option Addr} {mad cad : Nat} {xad : List Nat} (had : Rd Bad w 1 Aad mad cad (us xad)) {na : Bool} (hLan : Lim xan) (hLad : Lim xad) (hza : man * 4 ≤ 140737488351232 ∧ mad * 4 ≤ 140737488351232) {X : Int} (hX : -9223372036854775808 ≤ X ∧ X ≤ 9223372036854775807) (q0 : Rat) (hq0e : val na (nv xan) (nv xad) = q0) (hsg : X < 0) (hq0 : q0 = 0) :
    Calls Try.prog 11 #[.agg #[.bool na, .slice Aan man can, .slice Aad mad cad], .int .i64 X] w fun e w2 => ∃ v, e = .returned v ∧ (fun v w2 => v = .bool true ∧ w.grownBy w2 none) v w2 := by
  have han := han.norm
  have han_l := han.ulen
  have han_x := han.max
  simp only [maxLen] at han_x
  have han_c := han.cap
  have had := had.norm
  have had_l := had.ulen
  have had_x := had.max
  simp only [maxLen] at had_x
  have had_c := had.cap
  have han0 := han
  have had0 := had
  obtain ⟨qa, hqa⟩ : ∃ q, val na (nv xan) (nv xad) = q := ⟨_, rfl⟩
  have eq0 : qa = q0 := by rw [← hqa, hq0e]
  subst eq0
  have hB := ext_refl w
  refine calls_of_W (vs := [.agg #[.bool na, .slice Aan man can, .slice Aad mad cad], .int .i64 X]) [4] Try.func11 rfl rfl rfl rfl ?_
  refine W.seq ?_
  refine W.region ?_
  refine WL.box Try.el31 rfl rfl rfl ?_
  intro g11 w12 hg_g11 hVg11 hGw12
  change Own _ _ _ _ _ _ _ [.bool na, .slice Aan man can, .slice Aad mad cad] at hVg11
  have hVg11 := hVg11.low (b' := w.heap.size) hB.size
  have hB := ext_trans hB hGw12
  have han := han0.ext hB
  have had := had0.ext hB
  refine WL.assign rfl rfl ?_
  refine WL.done ?_
  refine W.seq ?_
  refine W.seq ?_
  refine W.region ?_
  refine WL.loadV (cs := [.bool na, .slice Aan man can, .slice Aad mad cad]) Try.el31 Try.agg31 rfl rfl hVg11.vcells rfl ?_
  refine WL.lit (b := w12.heap.size) (cells := [.bool na, .slice Aan man can, .slice Aad mad cad]) Try.underlying44 Try.el31 (by decide) ⟨_, rfl, by kernel_rfl⟩ rfl (Nat.le_refl _) rfl ?_
  rintro A13 w14 - hO15 hGw14
  have hO15 := hO15.low (b' := w.heap.size) hB.size
  have hB := ext_trans hB hGw14
  have han := han0.ext hB
  have had := had0.ext hB
  have hVg11 := hVg11.ext hGw14
  have hN16 : RatsR w14.heap.size w14 [.bool na, .slice Aan man can, .slice Aad mad cad] [(na, xan, xad)] := (RatsR.cons han.norm had.norm (RatsR.nil _ _))
  refine WL.call Try.func17 rfl Try.nm17 rfl rfl (long_c hO15.rd hN16 rfl (RLen.cons (by first | omega | (simp; done) | (simp; omega)) (by first | omega | (simp; done) | (simp; omega)) (RLen.nil _))) ?_
  rintro _ w17 ⟨bhlo, rfl, hGw17, hlo_t, hlo_f⟩
  have hB := ext_trans hB hGw17
  have han := han0.ext hB
  have had := had0.ext hB
  have hVg11 := hVg11.ext hGw17
  rcases bhlo with _ | _
  · have hlo := hlo_f rfl
    have hla : xan.length + xad.length ≤ 6 := hlo 0 (by simp)
    refine WL.move rfl rfl ?_
    refine WL.take rfl ?_
    refine WL.move rfl rfl ?_
    refine WL.take rfl ?_
    refine WL.move rfl rfl ?_
    refine WL.take rfl ?_
    refine WL.neg (r := (negw X)) rfl (negw_wrap hX) rfl ?_
    refine WL.take rfl ?_
    refine WL.max2 (r := (mxw X)) rfl rfl rfl rfl ?_
    refine WL.take rfl ?_
    refine WL.leq rfl rfl rfl (fun c18 => ?_) (fun c18 => ?_)
    · refine WL.take rfl ?_
      refine WL.move rfl rfl ?_
      refine WL.take rfl ?_
      refine WL.fieldA (off := 1) Try.fla31_1 rfl rfl ?_
      refine WL.take rfl ?_
      refine WL.load Try.underlying23 rfl rfl (hVg11.vcells 1 _ rfl) rfl ?_
      refine WL.take rfl ?_
      refine WL.len Try.underlying23 rfl rfl ?_
      refine WL.take rfl ?_
      refine WL.fieldA (off := 2) Try.fla31_2 rfl rfl ?_
      refine WL.take rfl ?_
      refine WL.load Try.underlying23 rfl rfl (hVg11.vcells 2 _ rfl) rfl ?_
      refine WL.take rfl ?_
      refine WL.len Try.underlying23 rfl rfl ?_
      refine WL.take rfl ?_
      refine WL.add (r := ((man + mad : Nat) : Int)) rfl rfl (wi64 (by omega) (by omega) (by omega)) rfl ?_
      refine WL.take rfl ?_
      refine WL.mul (r := ((32 * (man + mad) : Nat) : Int)) rfl rfl (wi64 (by omega) (by omega) (by omega)) rfl ?_
      refine WL.take rfl ?_
      refine WL.move rfl rfl ?_
      refine WL.take rfl ?_
      refine WL.move rfl rfl ?_
      refine WL.take rfl ?_
      refine WL.neg (r := (negw X)) rfl (negw_wrap hX) rfl ?_
      refine WL.take rfl ?_
      refine WL.max2 (r := (mxw X)) rfl rfl rfl rfl ?_
      refine WL.take rfl ?_
      refine WL.mul (r := (IntKind.i64.wrap (((32 * (man + mad) : Nat) : Int) * mxw X))) rfl rfl rfl rfl ?_
      refine WL.take rfl ?_
      refine WL.gtr rfl rfl rfl (fun c19 => ?_) (fun c19 => ?_)
      · refine WL.take rfl ?_
        refine WL.pick rfl rfl rfl ?_
        refine WL.pick rfl rfl rfl ?_
        refine WL.done ?_
        refine W.condT rfl ?_
        refine W.seq ?_
        refine W.region ?_
        refine WL.assign rfl rfl ?_
        refine WL.done ?_
        refine W.ret ?_
        refine ⟨_, rfl, ?_⟩
        exact ⟨rfl, hB⟩
      · refine WL.take rfl ?_
        refine WL.pick rfl rfl rfl ?_
        refine WL.pick rfl rfl rfl ?_
        refine WL.done ?_
        refine W.condF rfl ?_
        refine W.skip ?_
        refine W.seq ?_
        refine W.region ?_
        refine WL.loadV (cs := [.bool na, .slice Aan man can, .slice Aad mad cad]) Try.el31 Try.agg31 rfl rfl hVg11.vcells rfl ?_
        refine WL.move rfl rfl ?_
        refine WL.call Try.func40 rfl Try.nm40 rfl rfl (qPow_z han had hLan hLad qa hqa (by omega) (by omega) (by omega) hsg hq0) ?_
        rintro _ w20 ⟨rfl, hGw20⟩
        have hB := ext_trans hB hGw20
        have han := han0.ext hB
        have had := had0.ext hB
        have hVg11 := hVg11.ext hGw20
        refine WL.move rfl rfl ?_
        refine WL.extract rfl rfl rfl ?_
        refine WL.extract rfl rfl rfl ?_
        refine WL.alloc Try.el31 rfl ?_
        intro g21 w22 hg_g21 hVg21 hGw22
        change Own _ _ _ _ _ _ _ [.bool false, .slice none 0 0, .slice none 0 0] at hVg21
        have hlt_g11_g21 : g11 < g21 := by rw [hg_g21]; exact (hVg11.bl_ge _ rfl).2
        have hVg21 := hVg21.low (b' := w.heap.size) hB.size
        have hB := ext_trans hB hGw22
        have han := han0.ext hB
        have had := had0.ext hB
        have hVg11 := hVg11.ext hGw22
        refine WL.storeV Try.el31 rfl rfl rfl rfl hVg21 ?_
        have hOld24 := hVg21
        intro w23 hVg21 hGw23
        change Own _ _ _ _ _ _ _ [.bool false, .slice none 0 0, .slice none 0 0] at hVg21
        have hB := ext_own hB hGw23 (fun g hg => (hOld24.bl_ge g hg).1)
        have han := han0.ext hB
        have had := had0.ext hB
        have hVg11 := hVg11.grown hGw23 (apart (by omega))
        refine WL.assign rfl rfl ?_
        refine WL.done ?_
        refine W.seq ?_
        refine W.region ?_
        refine WL.loadV (cs := [.bool na, .slice Aan man can, .slice Aad mad cad]) Try.el31 Try.agg31 rfl rfl hVg11.vcells rfl ?_
        refine WL.move rfl rfl ?_
        refine WL.call Try.func41 rfl Try.nm41 rfl rfl (rqPow_z han had hLan hLad qa hqa (by omega) (by omega) (by omega) hsg hq0) ?_
        rintro _ w25 ⟨rfl, hGw25⟩
        have hB := ext_trans hB hGw25
        have hVg11 := hVg11.ext hGw25
        have hVg21 := hVg21.ext hGw25
        refine WL.move rfl rfl ?_
        refine WL.extract rfl rfl rfl ?_
        refine WL.extract rfl rfl rfl ?_
        refine WL.alloc Try.el31 rfl ?_
        intro g26 w27 hg_g26 hVg26 hGw27
        change Own _ _ _ _ _ _ _ [.bool false, .slice none 0 0, .slice none 0 0] at hVg26
        have hlt_g11_g26 : g11 < g26 := by rw [hg_g26]; exact (hVg11.bl_ge _ rfl).2
        have hlt_g21_g26 : g21 < g26 := by rw [hg_g26]; exact (hVg21.bl_ge _ rfl).2
        have hVg26 := hVg26.low (b' := w.heap.size) hB.size
        have hB := ext_trans hB hGw27
        have hVg21 := hVg21.ext hGw27
        refine WL.storeV Try.el31 rfl rfl rfl rfl hVg26 ?_
        have hOld29 := hVg26
        intro w28 hVg26 hGw28
        change Own _ _ _ _ _ _ _ [.bool false, .slice none 0 0, .slice none 0 0] at hVg26
        have hB := ext_own hB hGw28 (fun g hg => (hOld29.bl_ge g hg).1)
        have hVg21 := hVg21.grown hGw28 (apart (by omega))
        refine WL.assign rfl rfl ?_
        refine WL.done ?_
        refine W.seq ?_
        refine W.region ?_
        refine WL.move rfl rfl ?_
        refine WL.move rfl rfl ?_
        refine WL.eql rfl rfl rfl (fun c30 => ?_) (fun c30 => ?_)
        · refine WL.move rfl rfl ?_
          refine WL.take rfl ?_
          refine WL.loadV (cs := [.bool false, .slice none 0 0, .slice none 0 0]) Try.el31 Try.agg31 rfl rfl hVg21.vcells rfl ?_
          refine WL.take rfl ?_
          refine WL.loadV (cs := [.bool false, .slice none 0 0, .slice none 0 0]) Try.el31 Try.agg31 rfl rfl hVg26.vcells rfl ?_
          refine WL.take rfl ?_
          refine WL.call Try.func18 rfl Try.nm18 rfl rfl (qsame_t Rd.nilU Rd.nilU Rd.nilU Rd.nilU ⟨rfl, rfl, rfl⟩) ?_
          rintro _ w31 ⟨rfl, hGw31⟩
          have hB := ext_trans hB hGw31
          refine WL.pick rfl rfl rfl ?_
          refine WL.assign rfl rfl ?_
          refine WL.done ?_
          refine W.ret ?_
          refine ⟨_, rfl, ?_⟩
          exact ⟨rfl, hB⟩
        · exfalso
          omega
    · refine WL.take rfl ?_
      refine WL.move rfl rfl ?_
      refine WL.pass rfl rfl rfl ?_
      refine WL.pass rfl rfl rfl ?_
      refine WL.pass rfl rfl rfl ?_
      refine WL.pass rfl rfl rfl ?_
      refine WL.pass rfl rfl rfl ?_
      refine WL.pass rfl rfl rfl ?_
      refine WL.pass rfl rfl rfl ?_
      refine WL.pass rfl rfl rfl ?_
      refine WL.pass rfl rfl rfl ?_
      refine WL.pass rfl rfl rfl ?_
      refine WL.pass rfl rfl rfl ?_
      refine WL.pass rfl rfl rfl ?_
      refine WL.pass rfl rfl rfl ?_
      refine WL.pass rfl rfl rfl ?_
      refine WL.take rfl ?_
      refine WL.pick rfl rfl rfl ?_
      refine WL.pick rfl rfl rfl ?_
      refine WL.done ?_
      refine W.condF rfl ?_
      refine W.skip ?_
      refine W.seq ?_
      refine W.region ?_
      refine WL.loadV (cs := [.bool na, .slice Aan man can, .slice Aad mad cad]) Try.el31 Try.agg31 rfl rfl hVg11.vcells rfl ?_
      refine WL.move rfl rfl ?_
      refine WL.call Try.func40 rfl Try.nm40 rfl rfl (qPow_z han had hLan hLad qa hqa (by omega) (by omega) (by omega) hsg hq0) ?_
      rintro _ w32 ⟨rfl, hGw32⟩
      have hB := ext_trans hB hGw32
      have han := han0.ext hB
      have had := had0.ext hB
      have hVg11 := hVg11.ext hGw32
      refine WL.move rfl rfl ?_
      refine WL.extract rfl rfl rfl ?_
      refine WL.extract rfl rfl rfl ?_
      refine WL.alloc Try.el31 rfl ?_
      intro g33 w34 hg_g33 hVg33 hGw34
      change Own _ _ _ _ _ _ _ [.bool false, .slice none 0 0, .slice none 0 0] at hVg33
      have hlt_g11_g33 : g11 < g33 := by rw [hg_g33]; exact (hVg11.bl_ge _ rfl).2
      have hVg33 := hVg33.low (b' := w.heap.size) hB.size
      have hB := ext_trans hB hGw34
      have han := han0.ext hB
      have had := had0.ext hB
      have hVg11 := hVg11.ext hGw34
      refine WL.storeV Try.el31 rfl rfl rfl rfl hVg33 ?_
      have hOld36 := hVg33
      intro w35 hVg33 hGw35
      change Own _ _ _ _ _ _ _ [.bool false, .slice none 0 0, .slice none 0 0] at hVg33
      have hB := ext_own hB hGw35 (fun g hg => (hOld36.bl_ge g hg).1)
      have han := han0.ext hB
      have had := had0.ext hB
      have hVg11 := hVg11.grown hGw35 (apart (by omega))
      refine WL.assign rfl rfl ?_
      refine WL.done ?_
      refine W.seq ?_
      refine W.region ?_
      refine WL.loadV (cs := [.bool na, .slice Aan man can, .slice Aad mad cad]) Try.el31 Try.agg31 rfl rfl hVg11.vcells rfl ?_
      refine WL.move rfl rfl ?_
      refine WL.call Try.func41 rfl Try.nm41 rfl rfl (rqPow_z han had hLan hLad qa hqa (by omega) (by omega) (by omega) hsg hq0) ?_
      rintro _ w37 ⟨rfl, hGw37⟩
      have hB := ext_trans hB hGw37
      have hVg11 := hVg11.ext hGw37
      have hVg33 := hVg33.ext hGw37
      refine WL.move rfl rfl ?_
      refine WL.extract rfl rfl rfl ?_
      refine WL.extract rfl rfl rfl ?_
      refine WL.alloc Try.el31 rfl ?_
      intro g38 w39 hg_g38 hVg38 hGw39
      change Own _ _ _ _ _ _ _ [.bool false, .slice none 0 0, .slice none 0 0] at hVg38
      have hlt_g11_g38 : g11 < g38 := by rw [hg_g38]; exact (hVg11.bl_ge _ rfl).2
      have hlt_g33_g38 : g33 < g38 := by rw [hg_g38]; exact (hVg33.bl_ge _ rfl).2
      have hVg38 := hVg38.low (b' := w.heap.size) hB.size
      have hB := ext_trans hB hGw39
      have hVg33 := hVg33.ext hGw39
      refine WL.storeV Try.el31 rfl rfl rfl rfl hVg38 ?_
      have hOld41 := hVg38
      intro w40 hVg38 hGw40
      change Own _ _ _ _ _ _ _ [.bool false, .slice none 0 0, .slice none 0 0] at hVg38
      have hB := ext_own hB hGw40 (fun g hg => (hOld41.bl_ge g hg).1)
      have hVg33 := hVg33.grown hGw40 (apart (by omega))
      refine WL.assign rfl rfl ?_
      refine WL.done ?_
      refine W.seq ?_
      refine W.region ?_
      refine WL.move rfl rfl ?_
      refine WL.move rfl rfl ?_
      refine WL.eql rfl rfl rfl (fun c42 => ?_) (fun c42 => ?_)
      · refine WL.move rfl rfl ?_
        refine WL.take rfl ?_
        refine WL.loadV (cs := [.bool false, .slice none 0 0, .slice none 0 0]) Try.el31 Try.agg31 rfl rfl hVg33.vcells rfl ?_
        refine WL.take rfl ?_
        refine WL.loadV (cs := [.bool false, .slice none 0 0, .slice none 0 0]) Try.el31 Try.agg31 rfl rfl hVg38.vcells rfl ?_
        refine WL.take rfl ?_
        refine WL.call Try.func18 rfl Try.nm18 rfl rfl (qsame_t Rd.nilU Rd.nilU Rd.nilU Rd.nilU ⟨rfl, rfl, rfl⟩) ?_
        rintro _ w43 ⟨rfl, hGw43⟩
        have hB := ext_trans hB hGw43
        refine WL.pick rfl rfl rfl ?_
        refine WL.assign rfl rfl ?_
        refine WL.done ?_
        refine W.ret ?_
        refine ⟨_, rfl, ?_⟩
        exact ⟨rfl, hB⟩
      · exfalso
        omega
  · have hlo := hlo_t rfl
    refine WL.move rfl rfl ?_
    refine WL.pass rfl rfl rfl ?_
    refine WL.pass rfl rfl rfl ?_
    refine WL.pass rfl rfl rfl ?_
    refine WL.pass rfl rfl rfl ?_
    refine WL.pass rfl rfl rfl ?_
    refine WL.pass rfl rfl rfl ?_
    refine WL.passU rfl rfl ?_
    refine WL.passU rfl rfl ?_
    refine WL.passU rfl rfl ?_
    refine WL.passU rfl rfl ?_
    refine WL.passU rfl rfl ?_
    refine WL.passU rfl rfl ?_
    refine WL.passU rfl rfl ?_
    refine WL.passU rfl rfl ?_
    refine WL.passU rfl rfl ?_
    refine WL.passU rfl rfl ?_
    refine WL.passU rfl rfl ?_
    refine WL.passU rfl rfl ?_
    refine WL.passU rfl rfl ?_
    refine WL.passU rfl rfl ?_
    refine WL.pass rfl rfl rfl ?_
    refine WL.pick rfl rfl rfl ?_
    refine WL.done ?_
    refine W.condT rfl ?_
    refine W.seq ?_
    refine W.region ?_
    refine WL.assign rfl rfl ?_
    refine WL.done ?_
    refine W.ret ?_
    refine ⟨_, rfl, ?_⟩
    exact ⟨rfl, hB⟩

set_option maxHeartbeats 4000000 in
theorem RationalPowers_p_okok {w : World} {Ban : Nat} {Aan : Option Addr} {man can : Nat} {xan : List Nat} (han : Rd Ban w 1 Aan man can (us xan)) {Bad : Nat} {Aad : Option Addr} {mad cad : Nat} {xad : List Nat} (had : Rd Bad w 1 Aad mad cad (us xad)) {na : Bool} (hLan : Lim xan) (hLad : Lim xad) (hza : man * 4 ≤ 140737488351232 ∧ mad * 4 ≤ 140737488351232) {X : Int} (hX : -9223372036854775808 ≤ X ∧ X ≤ 9223372036854775807) (q0 : Rat) (hq0e : val na (nv xan) (nv xad) = q0) (hsg : 0 ≤ X) (h1 : (qnum q0) ^ X.natAbs < bigN) (h2 : (q0.den) ^ X.natAbs < bigN) :
    Calls Try.prog 11 #[.agg #[.bool na, .slice Aan man can, .slice Aad mad cad], .int .i64 X] w fun e w2 => ∃ v, e = .returned v ∧ (fun v w2 => v = .bool true ∧ w.grownBy w2 none) v w2 := by
  have han := han.norm
  have han_l := han.ulen
  have han_x := han.max
  simp only [maxLen] at han_x
  have han_c := han.cap
  have had := had.norm
  have had_l := had.ulen
  have had_x := had.max
  simp only [maxLen] at had_x
  have had_c := had.cap
  have han0 := han
  have had0 := had
  obtain ⟨qa, hqa⟩ : ∃ q, val na (nv xan) (nv xad) = q := ⟨_, rfl⟩
  have eq0 : qa = q0 := by rw [← hqa, hq0e]
  subst eq0
  have hB := ext_refl w
  refine calls_of_W (vs := [.agg #[.bool na, .slice Aan man can, .slice Aad mad cad], .int .i64 X]) [4] Try.func11 rfl rfl rfl rfl ?_
  refine W.seq ?_
  refine W.region ?_
  refine WL.box Try.el31 rfl rfl rfl ?_
  intro g11 w12 hg_g11 hVg11 hGw12
  change Own _ _ _ _ _ _ _ [.bool na, .slice Aan man can, .slice Aad mad cad] at hVg11
  have hVg11 := hVg11.low (b' := w.heap.size) hB.size
  have hB := ext_trans hB hGw12
  have han := han0.ext hB
  have had := had0.ext hB
  refine WL.assign rfl rfl ?_
  refine WL.done ?_
  refine W.seq ?_
  refine W.seq ?_
  refine W.region ?_
  refine WL.loadV (cs := [.bool na, .slice Aan man can, .slice Aad mad cad]) Try.el31 Try.agg31 rfl rfl hVg11.vcells rfl ?_
  refine WL.lit (b := w12.heap.size) (cells := [.bool na, .slice Aan man can, .slice Aad mad cad]) Try.underlying44 Try.el31 (by decide) ⟨_, rfl, by kernel_rfl⟩ rfl (Nat.le_refl _) rfl ?_
  rintro A13 w14 - hO15 hGw14
  have hO15 := hO15.low (b' := w.heap.size) hB.size
  have hB := ext_trans hB hGw14
  have han := han0.ext hB
  have had := had0.ext hB
  have hVg11 := hVg11.ext hGw14
  have hN16 : RatsR w14.heap.size w14 [.bool na, .slice Aan man can, .slice Aad mad cad] [(na, xan, xad)] := (RatsR.cons han.norm had.norm (RatsR.nil _ _))
  refine WL.call Try.func17 rfl Try.nm17 rfl rfl (long_c hO15.rd hN16 rfl (RLen.cons (by first | omega | (simp; done) | (simp; omega)) (by first | omega | (simp; done) | (simp; omega)) (RLen.nil _))) ?_
  rintro _ w17 ⟨bhlo, rfl, hGw17, hlo_t, hlo_f⟩
  have hB := ext_trans hB hGw17
  have han := han0.ext hB
  have had := had0.ext hB
  have hVg11 := hVg11.ext hGw17
  rcases bhlo with _ | _
  · have hlo := hlo_f rfl
    have hla : xan.length + xad.length ≤ 6 := hlo 0 (by simp)
    refine WL.move rfl rfl ?_
    refine WL.take rfl ?_
    refine WL.move rfl rfl ?_
    refine WL.take rfl ?_
    refine WL.move rfl rfl ?_
    refine WL.take rfl ?_
    refine WL.neg (r := (negw X)) rfl (negw_wrap hX) rfl ?_
    refine WL.take rfl ?_
    refine WL.max2 (r := (mxw X)) rfl rfl rfl rfl ?_
    refine WL.take rfl ?_
    refine WL.leq rfl rfl rfl (fun c18 => ?_) (fun c18 => ?_)
    · refine WL.take rfl ?_
      refine WL.move rfl rfl ?_
      refine WL.take rfl ?_
      refine WL.fieldA (off := 1) Try.fla31_1 rfl rfl ?_
      refine WL.take rfl ?_
      refine WL.load Try.underlying23 rfl rfl (hVg11.vcells 1 _ rfl) rfl ?_
      refine WL.take rfl ?_
      refine WL.len Try.underlying23 rfl rfl ?_
      refine WL.take rfl ?_
      refine WL.fieldA (off := 2) Try.fla31_2 rfl rfl ?_
      refine WL.take rfl ?_
      refine WL.load Try.underlying23 rfl rfl (hVg11.vcells 2 _ rfl) rfl ?_
      refine WL.take rfl ?_
      refine WL.len Try.underlying23 rfl rfl ?_
      refine WL.take rfl ?_
      refine WL.add (r := ((man + mad : Nat) : Int)) rfl rfl (wi64 (by omega) (by omega) (by omega)) rfl ?_
      refine WL.take rfl ?_
      refine WL.mul (r := ((32 * (man + mad) : Nat) : Int)) rfl rfl (wi64 (by omega) (by omega) (by omega)) rfl ?_
      refine WL.take rfl ?_
      refine WL.move rfl rfl ?_
      refine WL.take rfl ?_
      refine WL.move rfl rfl ?_
      refine WL.take rfl ?_
      refine WL.neg (r := (negw X)) rfl (negw_wrap hX) rfl ?_
      refine WL.take rfl ?_
      refine WL.max2 (r := (mxw X)) rfl rfl rfl rfl ?_
      refine WL.take rfl ?_
      refine WL.mul (r := (IntKind.i64.wrap (((32 * (man + mad) : Nat) : Int) * mxw X))) rfl rfl rfl rfl ?_
      refine WL.take rfl ?_
      refine WL.gtr rfl rfl rfl (fun c19 => ?_) (fun c19 => ?_)
      · refine WL.take rfl ?_
        refine WL.pick rfl rfl rfl ?_
        refine WL.pick rfl rfl rfl ?_
        refine WL.done ?_
        refine W.condT rfl ?_
        refine W.seq ?_
        refine W.region ?_
        refine WL.assign rfl rfl ?_
        refine WL.done ?_
        refine W.ret ?_
        refine ⟨_, rfl, ?_⟩
        exact ⟨rfl, hB⟩
      · refine WL.take rfl ?_
        refine WL.pick rfl rfl rfl ?_
        refine WL.pick rfl rfl rfl ?_
        refine WL.done ?_
        refine W.condF rfl ?_
        refine W.skip ?_
        refine W.seq ?_
        refine W.region ?_
        refine WL.loadV (cs := [.bool na, .slice Aan man can, .slice Aad mad cad]) Try.el31 Try.agg31 rfl rfl hVg11.vcells rfl ?_
        refine WL.move rfl rfl ?_
        refine WL.call Try.func40 rfl Try.nm40 rfl rfl (qPow_p_okok han had hLan hLad qa hqa (by omega) (by omega) (by omega) hsg h1 h2) ?_
        rintro _ w20 ⟨A21, m22, c23, A24, m25, c26, rfl, hGw20, hpn, hpd, hpm⟩
        have hpn := hpn.low (b' := w.heap.size) hB.size
        have hpd := hpd.low (b' := w.heap.size) hB.size
        have hB := ext_trans hB hGw20
        have han := han0.ext hB
        have had := had0.ext hB
        have hVg11 := hVg11.ext hGw20
        have hpn_l := hpn.rd.ulen
        have hpd_l := hpd.rd.ulen
        refine WL.move rfl rfl ?_
        refine WL.extract rfl rfl rfl ?_
        refine WL.extract rfl rfl rfl ?_
        refine WL.alloc Try.el31 rfl ?_
        intro g27 w28 hg_g27 hVg27 hGw28
        change Own _ _ _ _ _ _ _ [.bool false, .slice none 0 0, .slice none 0 0] at hVg27
        have hlt_g11_g27 : g11 < g27 := by rw [hg_g27]; exact (hVg11.bl_ge _ rfl).2
        have hap_hpn_g27 := ap_old hpn hg_g27
        have hap_hpd_g27 := ap_old hpd hg_g27
        have hVg27 := hVg27.low (b' := w.heap.size) hB.size
        have hB := ext_trans hB hGw28
        have han := han0.ext hB
        have had := had0.ext hB
        have hVg11 := hVg11.ext hGw28
        have hpn := hpn.ext hGw28
        have hpd := hpd.ext hGw28
        refine WL.storeV Try.el31 rfl rfl rfl rfl hVg27 ?_
        have hOld30 := hVg27
        intro w29 hVg27 hGw29
        change Own _ _ _ _ _ _ _ [.bool (qneg (qa ^ X)), .slice A21 m22 c23, .slice A24 m25 c26] at hVg27
        have hB := ext_own hB hGw29 (fun g hg => (hOld30.bl_ge g hg).1)
        have han := han0.ext hB
        have had := had0.ext hB
        have hVg11 := hVg11.grown hGw29 (apart (by omega))
        have hpn := hpn.grown hGw29 (ap_row (by first | exact hap_hpn_g27 | exact ap_type hpn hOld30 (by decide)))
        have hpd := hpd.grown hGw29 (ap_row (by first | exact hap_hpd_g27 | exact ap_type hpd hOld30 (by decide)))
        refine WL.assign rfl rfl ?_
        refine WL.done ?_
        refine W.seq ?_
        refine W.region ?_
        refine WL.loadV (cs := [.bool na, .slice Aan man can, .slice Aad mad cad]) Try.el31 Try.agg31 rfl rfl hVg11.vcells rfl ?_
        refine WL.move rfl rfl ?_
        refine WL.call Try.func41 rfl Try.nm41 rfl rfl (rqPow_p_okok han had hLan hLad qa hqa (by omega) (by omega) (by omega) hsg h1 h2) ?_
        rintro _ w31 ⟨A32, m33, c34, A35, m36, c37, rfl, hGw31, hrn, hrd, hrm⟩
        have hrn := hrn.low (b' := w.heap.size) hB.size
        have hrd := hrd.low (b' := w.heap.size) hB.size
        have hB := ext_trans hB hGw31
        have hVg11 := hVg11.ext hGw31
        have hpn := hpn.ext hGw31
        have hpd := hpd.ext hGw31
        have hVg27 := hVg27.ext hGw31
        have hrn_l := hrn.rd.ulen
        have hrd_l := hrd.rd.ulen
        refine WL.move rfl rfl ?_
        refine WL.extract rfl rfl rfl ?_
        refine WL.extract rfl rfl rfl ?_
        refine WL.alloc Try.el31 rfl ?_
        intro g38 w39 hg_g38 hVg38 hGw39
        change Own _ _ _ _ _ _ _ [.bool false, .slice none 0 0, .slice none 0 0] at hVg38
        have hlt_g11_g38 : g11 < g38 := by rw [hg_g38]; exact (hVg11.bl_ge _ rfl).2
        have hlt_g27_g38 : g27 < g38 := by rw [hg_g38]; exact (hVg27.bl_ge _ rfl).2
        have hap_hpn_g38 := ap_old hpn hg_g38
        have hap_hpd_g38 := ap_old hpd hg_g38
        have hap_hrn_g38 := ap_old hrn hg_g38
        have hap_hrd_g38 := ap_old hrd hg_g38
        have hVg38 := hVg38.low (b' := w.heap.size) hB.size
        have hB := ext_trans hB hGw39
        have hpn := hpn.ext hGw39
        have hpd := hpd.ext hGw39
        have hVg27 := hVg27.ext hGw39
        have hrn := hrn.ext hGw39
        have hrd := hrd.ext hGw39
        refine WL.storeV Try.el31 rfl rfl rfl rfl hVg38 ?_
        have hOld41 := hVg38
        intro w40 hVg38 hGw40
        change Own _ _ _ _ _ _ _ [.bool (qneg (qa ^ X)), .slice A32 m33 c34, .slice A35 m36 c37] at hVg38
        have hB := ext_own hB hGw40 (fun g hg => (hOld41.bl_ge g hg).1)
        have hpn := hpn.grown hGw40 (ap_row (by first | exact hap_hpn_g38 | exact ap_type hpn hOld41 (by decide)))
        have hpd := hpd.grown hGw40 (ap_row (by first | exact hap_hpd_g38 | exact ap_type hpd hOld41 (by decide)))
        have hVg27 := hVg27.grown hGw40 (apart (by omega))
        have hrn := hrn.grown hGw40 (ap_row (by first | exact hap_hrn_g38 | exact ap_type hrn hOld41 (by decide)))
        have hrd := hrd.grown hGw40 (ap_row (by first | exact hap_hrd_g38 | exact ap_type hrd hOld41 (by decide)))
        refine WL.assign rfl rfl ?_
        refine WL.done ?_
        refine W.seq ?_
        refine W.region ?_
        refine WL.move rfl rfl ?_
        refine WL.move rfl rfl ?_
        refine WL.eql rfl rfl rfl (fun c42 => ?_) (fun c42 => ?_)
        · refine WL.move rfl rfl ?_
          refine WL.take rfl ?_
          refine WL.loadV (cs := [.bool (qneg (qa ^ X)), .slice A21 m22 c23, .slice A24 m25 c26]) Try.el31 Try.agg31 rfl rfl hVg27.vcells rfl ?_
          refine WL.take rfl ?_
          refine WL.loadV (cs := [.bool (qneg (qa ^ X)), .slice A32 m33 c34, .slice A35 m36 c37]) Try.el31 Try.agg31 rfl rfl hVg38.vcells rfl ?_
          refine WL.take rfl ?_
          refine WL.call Try.func18 rfl Try.nm18 rfl rfl (qsame_t hpn.rd hpd.rd hrn.rd hrd.rd ⟨rfl, rfl, rfl⟩) ?_
          rintro _ w43 ⟨rfl, hGw43⟩
          have hB := ext_trans hB hGw43
          refine WL.pick rfl rfl rfl ?_
          refine WL.assign rfl rfl ?_
          refine WL.done ?_
          refine W.ret ?_
          refine ⟨_, rfl, ?_⟩
          exact ⟨rfl, hB⟩
        · exfalso
          omega
    · refine WL.take rfl ?_
      refine WL.move rfl rfl ?_
      refine WL.pass rfl rfl rfl ?_
      refine WL.pass rfl rfl rfl ?_
      refine WL.pass rfl rfl rfl ?_
      refine WL.pass rfl rfl rfl ?_
      refine WL.pass rfl rfl rfl ?_
      refine WL.pass rfl rfl rfl ?_
      refine WL.pass rfl rfl rfl ?_
      refine WL.pass rfl rfl rfl ?_
      refine WL.pass rfl rfl rfl ?_
      refine WL.pass rfl rfl rfl ?_
      refine WL.pass rfl rfl rfl ?_
      refine WL.pass rfl rfl rfl ?_
      refine WL.pass rfl rfl rfl ?_
      refine WL.pass rfl rfl rfl ?_
      refine WL.take rfl ?_
      refine WL.pick rfl rfl rfl ?_
      refine WL.pick rfl rfl rfl ?_
      refine WL.done ?_
      refine W.condF rfl ?_
      refine W.skip ?_
      refine W.seq ?_
      refine W.region ?_
      refine WL.loadV (cs := [.bool na, .slice Aan man can, .slice Aad mad cad]) Try.el31 Try.agg31 rfl rfl hVg11.vcells rfl ?_
      refine WL.move rfl rfl ?_
      refine WL.call Try.func40 rfl Try.nm40 rfl rfl (qPow_p_okok han had hLan hLad qa hqa (by omega) (by omega) (by omega) hsg h1 h2) ?_
      rintro _ w44 ⟨A45, m46, c47, A48, m49, c50, rfl, hGw44, hpn, hpd, hpm⟩
      have hpn := hpn.low (b' := w.heap.size) hB.size
      have hpd := hpd.low (b' := w.heap.size) hB.size
      have hB := ext_trans hB hGw44
      have han := han0.ext hB
      have had := had0.ext hB
      have hVg11 := hVg11.ext hGw44
      have hpn_l := hpn.rd.ulen
      have hpd_l := hpd.rd.ulen
      refine WL.move rfl rfl ?_
      refine WL.extract rfl rfl rfl ?_
      refine WL.extract rfl rfl rfl ?_
      refine WL.alloc Try.el31 rfl ?_
      intro g51 w52 hg_g51 hVg51 hGw52
      change Own _ _ _ _ _ _ _ [.bool false, .slice none 0 0, .slice none 0 0] at hVg51
      have hlt_g11_g51 : g11 < g51 := by rw [hg_g51]; exact (hVg11.bl_ge _ rfl).2
      have hap_hpn_g51 := ap_old hpn hg_g51
      have hap_hpd_g51 := ap_old hpd hg_g51
      have hVg51 := hVg51.low (b' := w.heap.size) hB.size
      have hB := ext_trans hB hGw52
      have han := han0.ext hB
      have had := had0.ext hB
      have hVg11 := hVg11.ext hGw52
      have hpn := hpn.ext hGw52
      have hpd := hpd.ext hGw52
      refine WL.storeV Try.el31 rfl rfl rfl rfl hVg51 ?_
      have hOld54 := hVg51
      intro w53 hVg51 hGw53
      change Own _ _ _ _ _ _ _ [.bool (qneg (qa ^ X)), .slice A45 m46 c47, .slice A48 m49 c50] at hVg51
      have hB := ext_own hB hGw53 (fun g hg => (hOld54.bl_ge g hg).1)
      have han := han0.ext hB
      have had := had0.ext hB
      have hVg11 := hVg11.grown hGw53 (apart (by omega))
      have hpn := hpn.grown hGw53 (ap_row (by first | exact hap_hpn_g51 | exact ap_type hpn hOld54 (by decide)))
      have hpd := hpd.grown hGw53 (ap_row (by first | exact hap_hpd_g51 | exact ap_type hpd hOld54 (by decide)))
      refine WL.assign rfl rfl ?_
      refine WL.done ?_
      refine W.seq ?_
      refine W.region ?_
      refine WL.loadV (cs := [.bool na, .slice Aan man can, .slice Aad mad cad]) Try.el31 Try.agg31 rfl rfl hVg11.vcells rfl ?_
      refine WL.move rfl rfl ?_
      refine WL.call Try.func41 rfl Try.nm41 rfl rfl (rqPow_p_okok han had hLan hLad qa hqa (by omega) (by omega) (by omega) hsg h1 h2) ?_
      rintro _ w55 ⟨A56, m57, c58, A59, m60, c61, rfl, hGw55, hrn, hrd, hrm⟩
      have hrn := hrn.low (b' := w.heap.size) hB.size
      have hrd := hrd.low (b' := w.heap.size) hB.size
      have hB := ext_trans hB hGw55
      have hVg11 := hVg11.ext hGw55
      have hpn := hpn.ext hGw55
      have hpd := hpd.ext hGw55
      have hVg51 := hVg51.ext hGw55
      have hrn_l := hrn.rd.ulen
      have hrd_l := hrd.rd.ulen
      refine WL.move rfl rfl ?_
      refine WL.extract rfl rfl rfl ?_
      refine WL.extract rfl rfl rfl ?_
      refine WL.alloc Try.el31 rfl ?_
      intro g62 w63 hg_g62 hVg62 hGw63
      change Own _ _ _ _ _ _ _ [.bool false, .slice none 0 0, .slice none 0 0] at hVg62
      have hlt_g11_g62 : g11 < g62 := by rw [hg_g62]; exact (hVg11.bl_ge _ rfl).2
      have hlt_g51_g62 : g51 < g62 := by rw [hg_g62]; exact (hVg51.bl_ge _ rfl).2
      have hap_hpn_g62 := ap_old hpn hg_g62
      have hap_hpd_g62 := ap_old hpd hg_g62
      have hap_hrn_g62 := ap_old hrn hg_g62
      have hap_hrd_g62 := ap_old hrd hg_g62
      have hVg62 := hVg62.low (b' := w.heap.size) hB.size
      have hB := ext_trans hB hGw63
      have hpn := hpn.ext hGw63
      have hpd := hpd.ext hGw63
      have hVg51 := hVg51.ext hGw63
      have hrn := hrn.ext hGw63
      have hrd := hrd.ext hGw63
      refine WL.storeV Try.el31 rfl rfl rfl rfl hVg62 ?_
      have hOld65 := hVg62
      intro w64 hVg62 hGw64
      change Own _ _ _ _ _ _ _ [.bool (qneg (qa ^ X)), .slice A56 m57 c58, .slice A59 m60 c61] at hVg62
      have hB := ext_own hB hGw64 (fun g hg => (hOld65.bl_ge g hg).1)
      have hpn := hpn.grown hGw64 (ap_row (by first | exact hap_hpn_g62 | exact ap_type hpn hOld65 (by decide)))
      have hpd := hpd.grown hGw64 (ap_row (by first | exact hap_hpd_g62 | exact ap_type hpd hOld65 (by decide)))
      have hVg51 := hVg51.grown hGw64 (apart (by omega))
      have hrn := hrn.grown hGw64 (ap_row (by first | exact hap_hrn_g62 | exact ap_type hrn hOld65 (by decide)))
      have hrd := hrd.grown hGw64 (ap_row (by first | exact hap_hrd_g62 | exact ap_type hrd hOld65 (by decide)))
      refine WL.assign rfl rfl ?_
      refine WL.done ?_
      refine W.seq ?_
      refine W.region ?_
      refine WL.move rfl rfl ?_
      refine WL.move rfl rfl ?_
      refine WL.eql rfl rfl rfl (fun c66 => ?_) (fun c66 => ?_)
      · refine WL.move rfl rfl ?_
        refine WL.take rfl ?_
        refine WL.loadV (cs := [.bool (qneg (qa ^ X)), .slice A45 m46 c47, .slice A48 m49 c50]) Try.el31 Try.agg31 rfl rfl hVg51.vcells rfl ?_
        refine WL.take rfl ?_
        refine WL.loadV (cs := [.bool (qneg (qa ^ X)), .slice A56 m57 c58, .slice A59 m60 c61]) Try.el31 Try.agg31 rfl rfl hVg62.vcells rfl ?_
        refine WL.take rfl ?_
        refine WL.call Try.func18 rfl Try.nm18 rfl rfl (qsame_t hpn.rd hpd.rd hrn.rd hrd.rd ⟨rfl, rfl, rfl⟩) ?_
        rintro _ w67 ⟨rfl, hGw67⟩
        have hB := ext_trans hB hGw67
        refine WL.pick rfl rfl rfl ?_
        refine WL.assign rfl rfl ?_
        refine WL.done ?_
        refine W.ret ?_
        refine ⟨_, rfl, ?_⟩
        exact ⟨rfl, hB⟩
      · exfalso
        omega
  · have hlo := hlo_t rfl
    refine WL.move rfl rfl ?_
    refine WL.pass rfl rfl rfl ?_
    refine WL.pass rfl rfl rfl ?_
    refine WL.pass rfl rfl rfl ?_
    refine WL.pass rfl rfl rfl ?_
    refine WL.pass rfl rfl rfl ?_
    refine WL.pass rfl rfl rfl ?_
    refine WL.passU rfl rfl ?_
    refine WL.passU rfl rfl ?_
    refine WL.passU rfl rfl ?_
    refine WL.passU rfl rfl ?_
    refine WL.passU rfl rfl ?_
    refine WL.passU rfl rfl ?_
    refine WL.passU rfl rfl ?_
    refine WL.passU rfl rfl ?_
    refine WL.passU rfl rfl ?_
    refine WL.passU rfl rfl ?_
    refine WL.passU rfl rfl ?_
    refine WL.passU rfl rfl ?_
    refine WL.passU rfl rfl ?_
    refine WL.passU rfl rfl ?_
    refine WL.pass rfl rfl rfl ?_
    refine WL.pick rfl rfl rfl ?_
    refine WL.done ?_
    refine W.condT rfl ?_
    refine W.seq ?_
    refine W.region ?_
    refine WL.assign rfl rfl ?_
    refine WL.done ?_
    refine W.ret ?_
    refine ⟨_, rfl, ?_⟩
    exact ⟨rfl, hB⟩

set_option maxHeartbeats 4000000 in
theorem RationalPowers_p_okerr {w : World} {Ban : Nat} {Aan : Option Addr} {man can : Nat} {xan : List Nat} (han : Rd Ban w 1 Aan man can (us xan)) {Bad : Nat} {Aad : Option Addr} {mad cad : Nat} {xad : List Nat} (had : Rd Bad w 1 Aad mad cad (us xad)) {na : Bool} (hLan : Lim xan) (hLad : Lim xad) (hza : man * 4 ≤ 140737488351232 ∧ mad * 4 ≤ 140737488351232) {X : Int} (hX : -9223372036854775808 ≤ X ∧ X ≤ 9223372036854775807) (q0 : Rat) (hq0e : val na (nv xan) (nv xad) = q0) (hsg : 0 ≤ X) (h1 : (qnum q0) ^ X.natAbs < bigN) (h2 : ¬ (q0.den) ^ X.natAbs < bigN) :
    Calls Try.prog 11 #[.agg #[.bool na, .slice Aan man can, .slice Aad mad cad], .int .i64 X] w fun e w2 => ∃ v, e = .returned v ∧ (fun v w2 => v = .bool true ∧ w.grownBy w2 none) v w2 := by
  have han := han.norm
  have han_l := han.ulen
  have han_x := han.max
  simp only [maxLen] at han_x
  have han_c := han.cap
  have had := had.norm
  have had_l := had.ulen
  have had_x := had.max
  simp only [maxLen] at had_x
  have had_c := had.cap
  have han0 := han
  have had0 := had
  obtain ⟨qa, hqa⟩ : ∃ q, val na (nv xan) (nv xad) = q := ⟨_, rfl⟩
  have eq0 : qa = q0 := by rw [← hqa, hq0e]
  subst eq0
  have hB := ext_refl w
  refine calls_of_W (vs := [.agg #[.bool na, .slice Aan man can, .slice Aad mad cad], .int .i64 X]) [4] Try.func11 rfl rfl rfl rfl ?_
  refine W.seq ?_
  refine W.region ?_
  refine WL.box Try.el31 rfl rfl rfl ?_
  intro g11 w12 hg_g11 hVg11 hGw12
  change Own _ _ _ _ _ _ _ [.bool na, .slice Aan man can, .slice Aad mad cad] at hVg11
  have hVg11 := hVg11.low (b' := w.heap.size) hB.size
  have hB := ext_trans hB hGw12
  have han := han0.ext hB
  have had := had0.ext hB
  refine WL.assign rfl rfl ?_
  refine WL.done ?_
  refine W.seq ?_
  refine W.seq ?_
  refine W.region ?_
  refine WL.loadV (cs := [.bool na, .slice Aan man can, .slice Aad mad cad]) Try.el31 Try.agg31 rfl rfl hVg11.vcells rfl ?_
  refine WL.lit (b := w12.heap.size) (cells := [.bool na, .slice Aan man can, .slice Aad mad cad]) Try.underlying44 Try.el31 (by decide) ⟨_, rfl, by kernel_rfl⟩ rfl (Nat.le_refl _) rfl ?_
  rintro A13 w14 - hO15 hGw14
  have hO15 := hO15.low (b' := w.heap.size) hB.size
  have hB := ext_trans hB hGw14
  have han := han0.ext hB
  have had := had0.ext hB
  have hVg11 := hVg11.ext hGw14
  have hN16 : RatsR w14.heap.size w14 [.bool na, .slice Aan man can, .slice Aad mad cad] [(na, xan, xad)] := (RatsR.cons han.norm had.norm (RatsR.nil _ _))
  refine WL.call Try.func17 rfl Try.nm17 rfl rfl (long_c hO15.rd hN16 rfl (RLen.cons (by first | omega | (simp; done) | (simp; omega)) (by first | omega | (simp; done) | (simp; omega)) (RLen.nil _))) ?_
  rintro _ w17 ⟨bhlo, rfl, hGw17, hlo_t, hlo_f⟩
  have hB := ext_trans hB hGw17
  have han := han0.ext hB
  have had := had0.ext hB
  have hVg11 := hVg11.ext hGw17
  rcases bhlo with _ | _
  · have hlo := hlo_f rfl
    have hla : xan.length + xad.length ≤ 6 := hlo 0 (by simp)
    refine WL.move rfl rfl ?_
    refine WL.take rfl ?_
    refine WL.move rfl rfl ?_
    refine WL.take rfl ?_
    refine WL.move rfl rfl ?_
    refine WL.take rfl ?_
    refine WL.neg (r := (negw X)) rfl (negw_wrap hX) rfl ?_
    refine WL.take rfl ?_
    refine WL.max2 (r := (mxw X)) rfl rfl rfl rfl ?_
    refine WL.take rfl ?_
    refine WL.leq rfl rfl rfl (fun c18 => ?_) (fun c18 => ?_)
    · refine WL.take rfl ?_
      refine WL.move rfl rfl ?_
      refine WL.take rfl ?_
      refine WL.fieldA (off := 1) Try.fla31_1 rfl rfl ?_
      refine WL.take rfl ?_
      refine WL.load Try.underlying23 rfl rfl (hVg11.vcells 1 _ rfl) rfl ?_
      refine WL.take rfl ?_
      refine WL.len Try.underlying23 rfl rfl ?_
      refine WL.take rfl ?_
      refine WL.fieldA (off := 2) Try.fla31_2 rfl rfl ?_
      refine WL.take rfl ?_
      refine WL.load Try.underlying23 rfl rfl (hVg11.vcells 2 _ rfl) rfl ?_
      refine WL.take rfl ?_
      refine WL.len Try.underlying23 rfl rfl ?_
      refine WL.take rfl ?_
      refine WL.add (r := ((man + mad : Nat) : Int)) rfl rfl (wi64 (by omega) (by omega) (by omega)) rfl ?_
      refine WL.take rfl ?_
      refine WL.mul (r := ((32 * (man + mad) : Nat) : Int)) rfl rfl (wi64 (by omega) (by omega) (by omega)) rfl ?_
      refine WL.take rfl ?_
      refine WL.move rfl rfl ?_
      refine WL.take rfl ?_
      refine WL.move rfl rfl ?_
      refine WL.take rfl ?_
      refine WL.neg (r := (negw X)) rfl (negw_wrap hX) rfl ?_
      refine WL.take rfl ?_
      refine WL.max2 (r := (mxw X)) rfl rfl rfl rfl ?_
      refine WL.take rfl ?_
      refine WL.mul (r := (IntKind.i64.wrap (((32 * (man + mad) : Nat) : Int) * mxw X))) rfl rfl rfl rfl ?_
      refine WL.take rfl ?_
      refine WL.gtr rfl rfl rfl (fun c19 => ?_) (fun c19 => ?_)
      · refine WL.take rfl ?_
        refine WL.pick rfl rfl rfl ?_
        refine WL.pick rfl rfl rfl ?_
        refine WL.done ?_
        refine W.condT rfl ?_
        refine W.seq ?_
        refine W.region ?_
        refine WL.assign rfl rfl ?_
        refine WL.done ?_
        refine W.ret ?_
        refine ⟨_, rfl, ?_⟩
        exact ⟨rfl, hB⟩
      · refine WL.take rfl ?_
        refine WL.pick rfl rfl rfl ?_
        refine WL.pick rfl rfl rfl ?_
        refine WL.done ?_
        refine W.condF rfl ?_
        refine W.skip ?_
        refine W.seq ?_
        refine W.region ?_
        refine WL.loadV (cs := [.bool na, .slice Aan man can, .slice Aad mad cad]) Try.el31 Try.agg31 rfl rfl hVg11.vcells rfl ?_
        refine WL.move rfl rfl ?_
        refine WL.call Try.func40 rfl Try.nm40 rfl rfl (qPow_p_okerr han had hLan hLad qa hqa (by omega) (by omega) (by omega) hsg h1 h2) ?_
        rintro _ w20 ⟨rfl, hGw20⟩
        have hB := ext_trans hB hGw20
        have han := han0.ext hB
        have had := had0.ext hB
        have hVg11 := hVg11.ext hGw20
        refine WL.move rfl rfl ?_
        refine WL.extract rfl rfl rfl ?_
        refine WL.extract rfl rfl rfl ?_
        refine WL.alloc Try.el31 rfl ?_
        intro g21 w22 hg_g21 hVg21 hGw22
        change Own _ _ _ _ _ _ _ [.bool false, .slice none 0 0, .slice none 0 0] at hVg21
        have hlt_g11_g21 : g11 < g21 := by rw [hg_g21]; exact (hVg11.bl_ge _ rfl).2
        have hVg21 := hVg21.low (b' := w.heap.size) hB.size
        have hB := ext_trans hB hGw22
        have han := han0.ext hB
        have had := had0.ext hB
        have hVg11 := hVg11.ext hGw22
        refine WL.storeV Try.el31 rfl rfl rfl rfl hVg21 ?_
        have hOld24 := hVg21
        intro w23 hVg21 hGw23
        change Own _ _ _ _ _ _ _ [.bool false, .slice none 0 0, .slice none 0 0] at hVg21
        have hB := ext_own hB hGw23 (fun g hg => (hOld24.bl_ge g hg).1)
        have han := han0.ext hB
        have had := had0.ext hB
        have hVg11 := hVg11.grown hGw23 (apart (by omega))
        refine WL.assign rfl rfl ?_
        refine WL.done ?_
        refine W.seq ?_
        refine W.region ?_
        refine WL.loadV (cs := [.bool na, .slice Aan man can, .slice Aad mad cad]) Try.el31 Try.agg31 rfl rfl hVg11.vcells rfl ?_
        refine WL.move rfl rfl ?_
        refine WL.call Try.func41 rfl Try.nm41 rfl rfl (rqPow_p_okerr han had hLan hLad qa hqa (by omega) (by omega) (by omega) hsg h1 h2) ?_
        rintro _ w25 ⟨rfl, hGw25⟩
        have hB := ext_trans hB hGw25
        have hVg11 := hVg11.ext hGw25
        have hVg21 := hVg21.ext hGw25
        refine WL.move rfl rfl ?_
        refine WL.extract rfl rfl rfl ?_
        refine WL.extract rfl rfl rfl ?_
        refine WL.alloc Try.el31 rfl ?_
        intro g26 w27 hg_g26 hVg26 hGw27
        change Own _ _ _ _ _ _ _ [.bool false, .slice none 0 0, .slice none 0 0] at hVg26
        have hlt_g11_g26 : g11 < g26 := by rw [hg_g26]; exact (hVg11.bl_ge _ rfl).2
        have hlt_g21_g26 : g21 < g26 := by rw [hg_g26]; exact (hVg21.bl_ge _ rfl).2
        have hVg26 := hVg26.low (b' := w.heap.size) hB.size
        have hB := ext_trans hB hGw27
        have hVg21 := hVg21.ext hGw27
        refine WL.storeV Try.el31 rfl rfl rfl rfl hVg26 ?_
        have hOld29 := hVg26
        intro w28 hVg26 hGw28
        change Own _ _ _ _ _ _ _ [.bool false, .slice none 0 0, .slice none 0 0] at hVg26
        have hB := ext_own hB hGw28 (fun g hg => (hOld29.bl_ge g hg).1)
        have hVg21 := hVg21.grown hGw28 (apart (by omega))
        refine WL.assign rfl rfl ?_
        refine WL.done ?_
        refine W.seq ?_
        refine W.region ?_
        refine WL.move rfl rfl ?_
        refine WL.move rfl rfl ?_
        refine WL.eql rfl rfl rfl (fun c30 => ?_) (fun c30 => ?_)
        · refine WL.move rfl rfl ?_
          refine WL.take rfl ?_
          refine WL.loadV (cs := [.bool false, .slice none 0 0, .slice none 0 0]) Try.el31 Try.agg31 rfl rfl hVg21.vcells rfl ?_
          refine WL.take rfl ?_
          refine WL.loadV (cs := [.bool false, .slice none 0 0, .slice none 0 0]) Try.el31 Try.agg31 rfl rfl hVg26.vcells rfl ?_
          refine WL.take rfl ?_
          refine WL.call Try.func18 rfl Try.nm18 rfl rfl (qsame_t Rd.nilU Rd.nilU Rd.nilU Rd.nilU ⟨rfl, rfl, rfl⟩) ?_
          rintro _ w31 ⟨rfl, hGw31⟩
          have hB := ext_trans hB hGw31
          refine WL.pick rfl rfl rfl ?_
          refine WL.assign rfl rfl ?_
          refine WL.done ?_
          refine W.ret ?_
          refine ⟨_, rfl, ?_⟩
          exact ⟨rfl, hB⟩
        · exfalso
          omega
    · refine WL.take rfl ?_
      refine WL.move rfl rfl ?_
      refine WL.pass rfl rfl rfl ?_
      refine WL.pass rfl rfl rfl ?_
      refine WL.pass rfl rfl rfl ?_
      refine WL.pass rfl rfl rfl ?_
      refine WL.pass rfl rfl rfl ?_
      refine WL.pass rfl rfl rfl ?_
      refine WL.pass rfl rfl rfl ?_
      refine WL.pass rfl rfl rfl ?_
      refine WL.pass rfl rfl rfl ?_
      refine WL.pass rfl rfl rfl ?_
      refine WL.pass rfl rfl rfl ?_
      refine WL.pass rfl rfl rfl ?_
      refine WL.pass rfl rfl rfl ?_
      refine WL.pass rfl rfl rfl ?_
      refine WL.take rfl ?_
      refine WL.pick rfl rfl rfl ?_
      refine WL.pick rfl rfl rfl ?_
      refine WL.done ?_
      refine W.condF rfl ?_
      refine W.skip ?_
      refine W.seq ?_
      refine W.region ?_
      refine WL.loadV (cs := [.bool na, .slice Aan man can, .slice Aad mad cad]) Try.el31 Try.agg31 rfl rfl hVg11.vcells rfl ?_
      refine WL.move rfl rfl ?_
      refine WL.call Try.func40 rfl Try.nm40 rfl rfl (qPow_p_okerr han had hLan hLad qa hqa (by omega) (by omega) (by omega) hsg h1 h2) ?_
      rintro _ w32 ⟨rfl, hGw32⟩
      have hB := ext_trans hB hGw32
      have han := han0.ext hB
      have had := had0.ext hB
      have hVg11 := hVg11.ext hGw32
      refine WL.move rfl rfl ?_
      refine WL.extract rfl rfl rfl ?_
      refine WL.extract rfl rfl rfl ?_
      refine WL.alloc Try.el31 rfl ?_
      intro g33 w34 hg_g33 hVg33 hGw34
      change Own _ _ _ _ _ _ _ [.bool false, .slice none 0 0, .slice none 0 0] at hVg33
      have hlt_g11_g33 : g11 < g33 := by rw [hg_g33]; exact (hVg11.bl_ge _ rfl).2
      have hVg33 := hVg33.low (b' := w.heap.size) hB.size
      have hB := ext_trans hB hGw34
      have han := han0.ext hB
      have had := had0.ext hB
      have hVg11 := hVg11.ext hGw34
      refine WL.storeV Try.el31 rfl rfl rfl rfl hVg33 ?_
      have hOld36 := hVg33
      intro w35 hVg33 hGw35
      change Own _ _ _ _ _ _ _ [.bool false, .slice none 0 0, .slice none 0 0] at hVg33
      have hB := ext_own hB hGw35 (fun g hg => (hOld36.bl_ge g hg).1)
      have han := han0.ext hB
      have had := had0.ext hB
      have hVg11 := hVg11.grown hGw35 (apart (by omega))
      refine WL.assign rfl rfl ?_
      refine WL.done ?_
      refine W.seq ?_
      refine W.region ?_
      refine WL.loadV (cs := [.bool na, .slice Aan man can, .slice Aad mad cad]) Try.el31 Try.agg31 rfl rfl hVg11.vcells rfl ?_
      refine WL.move rfl rfl ?_
      refine WL.call Try.func41 rfl Try.nm41 rfl rfl (rqPow_p_okerr han had hLan hLad qa hqa (by omega) (by omega) (by omega) hsg h1 h2) ?_
      rintro _ w37 ⟨rfl, hGw37⟩
      have hB := ext_trans hB hGw37
      have hVg11 := hVg11.ext hGw37
      have hVg33 := hVg33.ext hGw37
      refine WL.move rfl rfl ?_
      refine WL.extract rfl rfl rfl ?_
      refine WL.extract rfl rfl rfl ?_
      refine WL.alloc Try.el31 rfl ?_
      intro g38 w39 hg_g38 hVg38 hGw39
      change Own _ _ _ _ _ _ _ [.bool false, .slice none 0 0, .slice none 0 0] at hVg38
      have hlt_g11_g38 : g11 < g38 := by rw [hg_g38]; exact (hVg11.bl_ge _ rfl).2
      have hlt_g33_g38 : g33 < g38 := by rw [hg_g38]; exact (hVg33.bl_ge _ rfl).2
      have hVg38 := hVg38.low (b' := w.heap.size) hB.size
      have hB := ext_trans hB hGw39
      have hVg33 := hVg33.ext hGw39
      refine WL.storeV Try.el31 rfl rfl rfl rfl hVg38 ?_
      have hOld41 := hVg38
      intro w40 hVg38 hGw40
      change Own _ _ _ _ _ _ _ [.bool false, .slice none 0 0, .slice none 0 0] at hVg38
      have hB := ext_own hB hGw40 (fun g hg => (hOld41.bl_ge g hg).1)
      have hVg33 := hVg33.grown hGw40 (apart (by omega))
      refine WL.assign rfl rfl ?_
      refine WL.done ?_
      refine W.seq ?_
      refine W.region ?_
      refine WL.move rfl rfl ?_
      refine WL.move rfl rfl ?_
      refine WL.eql rfl rfl rfl (fun c42 => ?_) (fun c42 => ?_)
      · refine WL.move rfl rfl ?_
        refine WL.take rfl ?_
        refine WL.loadV (cs := [.bool false, .slice none 0 0, .slice none 0 0]) Try.el31 Try.agg31 rfl rfl hVg33.vcells rfl ?_
        refine WL.take rfl ?_
        refine WL.loadV (cs := [.bool false, .slice none 0 0, .slice none 0 0]) Try.el31 Try.agg31 rfl rfl hVg38.vcells rfl ?_
        refine WL.take rfl ?_
        refine WL.call Try.func18 rfl Try.nm18 rfl rfl (qsame_t Rd.nilU Rd.nilU Rd.nilU Rd.nilU ⟨rfl, rfl, rfl⟩) ?_
        rintro _ w43 ⟨rfl, hGw43⟩
        have hB := ext_trans hB hGw43
        refine WL.pick rfl rfl rfl ?_
        refine WL.assign rfl rfl ?_
        refine WL.done ?_
        refine W.ret ?_
        refine ⟨_, rfl, ?_⟩
        exact ⟨rfl, hB⟩
      · exfalso
        omega
  · have hlo := hlo_t rfl
    refine WL.move rfl rfl ?_
    refine WL.pass rfl rfl rfl ?_
    refine WL.pass rfl rfl rfl ?_
    refine WL.pass rfl rfl rfl ?_
    refine WL.pass rfl rfl rfl ?_
    refine WL.pass rfl rfl rfl ?_
    refine WL.pass rfl rfl rfl ?_
    refine WL.passU rfl rfl ?_
    refine WL.passU rfl rfl ?_
    refine WL.passU rfl rfl ?_
    refine WL.passU rfl rfl ?_
    refine WL.passU rfl rfl ?_
    refine WL.passU rfl rfl ?_
    refine WL.passU rfl rfl ?_
    refine WL.passU rfl rfl ?_
    refine WL.passU rfl rfl ?_
    refine WL.passU rfl rfl ?_
    refine WL.passU rfl rfl ?_
    refine WL.passU rfl rfl ?_
    refine WL.passU rfl rfl ?_
    refine WL.passU rfl rfl ?_
    refine WL.pass rfl rfl rfl ?_
    refine WL.pick rfl rfl rfl ?_
    refine WL.done ?_
    refine W.condT rfl ?_
    refine W.seq ?_
    refine W.region ?_
    refine WL.assign rfl rfl ?_
    refine WL.done ?_
    refine W.ret ?_
    refine ⟨_, rfl, ?_⟩
    exact ⟨rfl, hB⟩

set_option maxHeartbeats 4000000 in
theorem RationalPowers_p_errok {w : World} {Ban : Nat} {Aan : Option Addr} {man can : Nat} {xan : List Nat} (han : Rd Ban w 1 Aan man can (us xan)) {Bad : Nat} {Aad : Option Addr} {mad cad : Nat} {xad : List Nat} (had : Rd Bad w 1 Aad mad cad (us xad)) {na : Bool} (hLan : Lim xan) (hLad : Lim xad) (hza : man * 4 ≤ 140737488351232 ∧ mad * 4 ≤ 140737488351232) {X : Int} (hX : -9223372036854775808 ≤ X ∧ X ≤ 9223372036854775807) (q0 : Rat) (hq0e : val na (nv xan) (nv xad) = q0) (hsg : 0 ≤ X) (h1 : ¬ (qnum q0) ^ X.natAbs < bigN) (h2 : (q0.den) ^ X.natAbs < bigN) :
    Calls Try.prog 11 #[.agg #[.bool na, .slice Aan man can, .slice Aad mad cad], .int .i64 X] w fun e w2 => ∃ v, e = .returned v ∧ (fun v w2 => v = .bool true ∧ w.grownBy w2 none) v w2 := by
  have han := han.norm
  have han_l := han.ulen
  have han_x := han.max
  simp only [maxLen] at han_x
  have han_c := han.cap
  have had := had.norm
  have had_l := had.ulen
  have had_x := had.max
  simp only [maxLen] at had_x
  have had_c := had.cap
  have han0 := han
  have had0 := had
  obtain ⟨qa, hqa⟩ : ∃ q, val na (nv xan) (nv xad) = q := ⟨_, rfl⟩
  have eq0 : qa = q0 := by rw [← hqa, hq0e]
  subst eq0
  have hB := ext_refl w
  refine calls_of_W (vs := [.agg #[.bool na, .slice Aan man can, .slice Aad mad cad], .int .i64 X]) [4] Try.func11 rfl rfl rfl rfl ?_
  refine W.seq ?_
  refine W.region ?_
  refine WL.box Try.el31 rfl rfl rfl ?_
  intro g11 w12 hg_g11 hVg11 hGw12
  change Own _ _ _ _ _ _ _ [.bool na, .slice Aan man can, .slice Aad mad cad] at hVg11
  have hVg11 := hVg11.low (b' := w.heap.size) hB.size
  have hB := ext_trans hB hGw12
  have han := han0.ext hB
  have had := had0.ext hB
  refine WL.assign rfl rfl ?_
  refine WL.done ?_
  refine W.seq ?_
  refine W.seq ?_
  refine W.region ?_
  refine WL.loadV (cs := [.bool na, .slice Aan man can, .slice Aad mad cad]) Try.el31 Try.agg31 rfl rfl hVg11.vcells rfl ?_
  refine WL.lit (b := w12.heap.size) (cells := [.bool na, .slice Aan man can, .slice Aad mad cad]) Try.underlying44 Try.el31 (by decide) ⟨_, rfl, by kernel_rfl⟩ rfl (Nat.le_refl _) rfl ?_
  rintro A13 w14 - hO15 hGw14
  have hO15 := hO15.low (b' := w.heap.size) hB.size
  have hB := ext_trans hB hGw14
  have han := han0.ext hB
  have had := had0.ext hB
  have hVg11 := hVg11.ext hGw14
  have hN16 : RatsR w14.heap.size w14 [.bool na, .slice Aan man can, .slice Aad mad cad] [(na, xan, xad)] := (RatsR.cons han.norm had.norm (RatsR.nil _ _))
  refine WL.call Try.func17 rfl Try.nm17 rfl rfl (long_c hO15.rd hN16 rfl (RLen.cons (by first | omega | (simp; done) | (simp; omega)) (by first | omega | (simp; done) | (simp; omega)) (RLen.nil _))) ?_
  rintro _ w17 ⟨bhlo, rfl, hGw17, hlo_t, hlo_f⟩
  have hB := ext_trans hB hGw17
  have han := han0.ext hB
  have had := had0.ext hB
  have hVg11 := hVg11.ext hGw17
  rcases bhlo with _ | _
  · have hlo := hlo_f rfl
    have hla : xan.length + xad.length ≤ 6 := hlo 0 (by simp)
    refine WL.move rfl rfl ?_
    refine WL.take rfl ?_
    refine WL.move rfl rfl ?_
    refine WL.take rfl ?_
    refine WL.move rfl rfl ?_
    refine WL.take rfl ?_
    refine WL.neg (r := (negw X)) rfl (negw_wrap hX) rfl ?_
    refine WL.take rfl ?_
    refine WL.max2 (r := (mxw X)) rfl rfl rfl rfl ?_
    refine WL.take rfl ?_
    refine WL.leq rfl rfl rfl (fun c18 => ?_) (fun c18 => ?_)
    · refine WL.take rfl ?_
      refine WL.move rfl rfl ?_
      refine WL.take rfl ?_
      refine WL.fieldA (off := 1) Try.fla31_1 rfl rfl ?_
      refine WL.take rfl ?_
      refine WL.load Try.underlying23 rfl rfl (hVg11.vcells 1 _ rfl) rfl ?_
      refine WL.take rfl ?_
      refine WL.len Try.underlying23 rfl rfl ?_
      refine WL.take rfl ?_
      refine WL.fieldA (off := 2) Try.fla31_2 rfl rfl ?_
      refine WL.take rfl ?_
      refine WL.load Try.underlying23 rfl rfl (hVg11.vcells 2 _ rfl) rfl ?_
      refine WL.take rfl ?_
      refine WL.len Try.underlying23 rfl rfl ?_
      refine WL.take rfl ?_
      refine WL.add (r := ((man + mad : Nat) : Int)) rfl rfl (wi64 (by omega) (by omega) (by omega)) rfl ?_
      refine WL.take rfl ?_
      refine WL.mul (r := ((32 * (man + mad) : Nat) : Int)) rfl rfl (wi64 (by omega) (by omega) (by omega)) rfl ?_
      refine WL.take rfl ?_
      refine WL.move rfl rfl ?_
      refine WL.take rfl ?_
      refine WL.move rfl rfl ?_
      refine WL.take rfl ?_
      refine WL.neg (r := (negw X)) rfl (negw_wrap hX) rfl ?_
      refine WL.take rfl ?_
      refine WL.max2 (r := (mxw X)) rfl rfl rfl rfl ?_
      refine WL.take rfl ?_
      refine WL.mul (r := (IntKind.i64.wrap (((32 * (man + mad) : Nat) : Int) * mxw X))) rfl rfl rfl rfl ?_
      refine WL.take rfl ?_
      refine WL.gtr rfl rfl rfl (fun c19 => ?_) (fun c19 => ?_)
      · refine WL.take rfl ?_
        refine WL.pick rfl rfl rfl ?_
        refine WL.pick rfl rfl rfl ?_
        refine WL.done ?_
        refine W.condT rfl ?_
        refine W.seq ?_
        refine W.region ?_
        refine WL.assign rfl rfl ?_
        refine WL.done ?_
        refine W.ret ?_
        refine ⟨_, rfl, ?_⟩
        exact ⟨rfl, hB⟩
      · refine WL.take rfl ?_
        refine WL.pick rfl rfl rfl ?_
        refine WL.pick rfl rfl rfl ?_
        refine WL.done ?_
        refine W.condF rfl ?_
        refine W.skip ?_
        refine W.seq ?_
        refine W.region ?_
        refine WL.loadV (cs := [.bool na, .slice Aan man can, .slice Aad mad cad]) Try.el31 Try.agg31 rfl rfl hVg11.vcells rfl ?_
        refine WL.move rfl rfl ?_
        refine WL.call Try.func40 rfl Try.nm40 rfl rfl (qPow_p_errok han had hLan hLad qa hqa (by omega) (by omega) (by omega) hsg h1 h2) ?_
        rintro _ w20 ⟨rfl, hGw20⟩
        have hB := ext_trans hB hGw20
        have han := han0.ext hB
        have had := had0.ext hB
        have hVg11 := hVg11.ext hGw20
        refine WL.move rfl rfl ?_
        refine WL.extract rfl rfl rfl ?_
        refine WL.extract rfl rfl rfl ?_
        refine WL.alloc Try.el31 rfl ?_
        intro g21 w22 hg_g21 hVg21 hGw22
        change Own _ _ _ _ _ _ _ [.bool false, .slice none 0 0, .slice none 0 0] at hVg21
        have hlt_g11_g21 : g11 < g21 := by rw [hg_g21]; exact (hVg11.bl_ge _ rfl).2
        have hVg21 := hVg21.low (b' := w.heap.size) hB.size
        have hB := ext_trans hB hGw22
        have han := han0.ext hB
        have had := had0.ext hB
        have hVg11 := hVg11.ext hGw22
        refine WL.storeV Try.el31 rfl rfl rfl rfl hVg21 ?_
        have hOld24 := hVg21
        intro w23 hVg21 hGw23
        change Own _ _ _ _ _ _ _ [.bool false, .slice none 0 0, .slice none 0 0] at hVg21
        have hB := ext_own hB hGw23 (fun g hg => (hOld24.bl_ge g hg).1)
        have han := han0.ext hB
        have had := had0.ext hB
        have hVg11 := hVg11.grown hGw23 (apart (by omega))
        refine WL.assign rfl rfl ?_
        refine WL.done ?_
        refine W.seq ?_
        refine W.region ?_
        refine WL.loadV (cs := [.bool na, .slice Aan man can, .slice Aad mad cad]) Try.el31 Try.agg31 rfl rfl hVg11.vcells rfl ?_
        refine WL.move rfl rfl ?_
        refine WL.call Try.func41 rfl Try.nm41 rfl rfl (rqPow_p_errok han had hLan hLad qa hqa (by omega) (by omega) (by omega) hsg h1 h2) ?_
        rintro _ w25 ⟨rfl, hGw25⟩
        have hB := ext_trans hB hGw25
        have hVg11 := hVg11.ext hGw25
        have hVg21 := hVg21.ext hGw25
        refine WL.move rfl rfl ?_
        refine WL.extract rfl rfl rfl ?_
        refine WL.extract rfl rfl rfl ?_
        refine WL.alloc Try.el31 rfl ?_
        intro g26 w27 hg_g26 hVg26 hGw27
        change Own _ _ _ _ _ _ _ [.bool false, .slice none 0 0, .slice none 0 0] at hVg26
        have hlt_g11_g26 : g11 < g26 := by rw [hg_g26]; exact (hVg11.bl_ge _ rfl).2
        have hlt_g21_g26 : g21 < g26 := by rw [hg_g26]; exact (hVg21.bl_ge _ rfl).2
        have hVg26 := hVg26.low (b' := w.heap.size) hB.size
        have hB := ext_trans hB hGw27
        have hVg21 := hVg21.ext hGw27
        refine WL.storeV Try.el31 rfl rfl rfl rfl hVg26 ?_
        have hOld29 := hVg26
        intro w28 hVg26 hGw28
        change Own _ _ _ _ _ _ _ [.bool false, .slice none 0 0, .slice none 0 0] at hVg26
        have hB := ext_own hB hGw28 (fun g hg => (hOld29.bl_ge g hg).1)
        have hVg21 := hVg21.grown hGw28 (apart (by omega))
        refine WL.assign rfl rfl ?_
        refine WL.done ?_
        refine W.seq ?_
        refine W.region ?_
        refine WL.move rfl rfl ?_
        refine WL.move rfl rfl ?_
        refine WL.eql rfl rfl rfl (fun c30 => ?_) (fun c30 => ?_)
        · refine WL.move rfl rfl ?_
          refine WL.take rfl ?_
          refine WL.loadV (cs := [.bool false, .slice none 0 0, .slice none 0 0]) Try.el31 Try.agg31 rfl rfl hVg21.vcells rfl ?_
          refine WL.take rfl ?_
          refine WL.loadV (cs := [.bool false, .slice none 0 0, .slice none 0 0]) Try.el31 Try.agg31 rfl rfl hVg26.vcells rfl ?_
          refine WL.take rfl ?_
          refine WL.call Try.func18 rfl Try.nm18 rfl rfl (qsame_t Rd.nilU Rd.nilU Rd.nilU Rd.nilU ⟨rfl, rfl, rfl⟩) ?_
          rintro _ w31 ⟨rfl, hGw31⟩
          have hB := ext_trans hB hGw31
          refine WL.pick rfl rfl rfl ?_
          refine WL.assign rfl rfl ?_
          refine WL.done ?_
          refine W.ret ?_
          refine ⟨_, rfl, ?_⟩
          exact ⟨rfl, hB⟩
        · exfalso
          omega
    · refine WL.take rfl ?_
      refine WL.move rfl rfl ?_
      refine WL.pass rfl rfl rfl ?_
      refine WL.pass rfl rfl rfl ?_
      refine WL.pass rfl rfl rfl ?_
      refine WL.pass rfl rfl rfl ?_
      refine WL.pass rfl rfl rfl ?_
      refine WL.pass rfl rfl rfl ?_
      refine WL.pass rfl rfl rfl ?_
      refine WL.pass rfl rfl rfl ?_
      refine WL.pass rfl rfl rfl ?_
      refine WL.pass rfl rfl rfl ?_
      refine WL.pass rfl rfl rfl ?_
      refine WL.pass rfl rfl rfl ?_
      refine WL.pass rfl rfl rfl ?_
      refine WL.pass rfl rfl rfl ?_
      refine WL.take rfl ?_
      refine WL.pick rfl rfl rfl ?_
      refine WL.pick rfl rfl rfl ?_
      refine WL.done ?_
      refine W.condF rfl ?_
      refine W.skip ?_
      refine W.seq ?_
      refine W.region ?_
      refine WL.loadV (cs := [.bool na, .slice Aan man can, .slice Aad mad cad]) Try.el31 Try.agg31 rfl rfl hVg11.vcells rfl ?_
      refine WL.move rfl rfl ?_
      refine WL.call Try.func40 rfl Try.nm40 rfl rfl (qPow_p_errok han had hLan hLad qa hqa (by omega) (by omega) (by omega) hsg h1 h2) ?_
      rintro _ w32 ⟨rfl, hGw32⟩
      have hB := ext_trans hB hGw32
      have han := han0.ext hB
      have had := had0.ext hB
      have hVg11 := hVg11.ext hGw32
      refine WL.move rfl rfl ?_
      refine WL.extract rfl rfl rfl ?_
      refine WL.extract rfl rfl rfl ?_
      refine WL.alloc Try.el31 rfl ?_
      intro g33 w34 hg_g33 hVg33 hGw34
      change Own _ _ _ _ _ _ _ [.bool false, .slice none 0 0, .slice none 0 0] at hVg33
      have hlt_g11_g33 : g11 < g33 := by rw [hg_g33]; exact (hVg11.bl_ge _ rfl).2
      have hVg33 := hVg33.low (b' := w.heap.size) hB.size
      have hB := ext_trans hB hGw34
      have han := han0.ext hB
      have had := had0.ext hB
      have hVg11 := hVg11.ext hGw34
      refine WL.storeV Try.el31 rfl rfl rfl rfl hVg33 ?_
      have hOld36 := hVg33
      intro w35 hVg33 hGw35
      change Own _ _ _ _ _ _ _ [.bool false, .slice none 0 0, .slice none 0 0] at hVg33
      have hB := ext_own hB hGw35 (fun g hg => (hOld36.bl_ge g hg).1)
      have han := han0.ext hB
      have had := had0.ext hB
      have hVg11 := hVg11.grown hGw35 (apart (by omega))
      refine WL.assign rfl rfl ?_
      refine WL.done ?_
      refine W.seq ?_
      refine W.region ?_
      refine WL.loadV (cs := [.bool na, .slice Aan man can, .slice Aad mad cad]) Try.el31 Try.agg31 rfl rfl hVg11.vcells rfl ?_
      refine WL.move rfl rfl ?_
      refine WL.call Try.func41 rfl Try.nm41 rfl rfl (rqPow_p_errok han had hLan hLad qa hqa (by omega) (by omega) (by omega) hsg h1 h2) ?_
      rintro _ w37 ⟨rfl, hGw37⟩
      have hB := ext_trans hB hGw37
      have hVg11 := hVg11.ext hGw37
      have hVg33 := hVg33.ext hGw37
      refine WL.move rfl rfl ?_
      refine WL.extract rfl rfl rfl ?_
      refine WL.extract rfl rfl rfl ?_
      refine WL.alloc Try.el31 rfl ?_
      intro g38 w39 hg_g38 hVg38 hGw39
      change Own _ _ _ _ _ _ _ [.bool false, .slice none 0 0, .slice none 0 0] at hVg38
      have hlt_g11_g38 : g11 < g38 := by rw [hg_g38]; exact (hVg11.bl_ge _ rfl).2
      have hlt_g33_g38 : g33 < g38 := by rw [hg_g38]; exact (hVg33.bl_ge _ rfl).2
      have hVg38 := hVg38.low (b' := w.heap.size) hB.size
      have hB := ext_trans hB hGw39
      have hVg33 := hVg33.ext hGw39
      refine WL.storeV Try.el31 rfl rfl rfl rfl hVg38 ?_
      have hOld41 := hVg38
      intro w40 hVg38 hGw40
      change Own _ _ _ _ _ _ _ [.bool false, .slice none 0 0, .slice none 0 0] at hVg38
      have hB := ext_own hB hGw40 (fun g hg => (hOld41.bl_ge g hg).1)
      have hVg33 := hVg33.grown hGw40 (apart (by omega))
      refine WL.assign rfl rfl ?_
      refine WL.done ?_
      refine W.seq ?_
      refine W.region ?_
      refine WL.move rfl rfl ?_
      refine WL.move rfl rfl ?_
      refine WL.eql rfl rfl rfl (fun c42 => ?_) (fun c42 => ?_)
      · refine WL.move rfl rfl ?_
        refine WL.take rfl ?_
        refine WL.loadV (cs := [.bool false, .slice none 0 0, .slice none 0 0]) Try.el31 Try.agg31 rfl rfl hVg33.vcells rfl ?_
        refine WL.take rfl ?_
        refine WL.loadV (cs := [.bool false, .slice none 0 0, .slice none 0 0]) Try.el31 Try.agg31 rfl rfl hVg38.vcells rfl ?_
        refine WL.take rfl ?_
        refine WL.call Try.func18 rfl Try.nm18 rfl rfl (qsame_t Rd.nilU Rd.nilU Rd.nilU Rd.nilU ⟨rfl, rfl, rfl⟩) ?_
        rintro _ w43 ⟨rfl, hGw43⟩
        have hB := ext_trans hB hGw43
        refine WL.pick rfl rfl rfl ?_
        refine WL.assign rfl rfl ?_
        refine WL.done ?_
        refine W.ret ?_
        refine ⟨_, rfl, ?_⟩
        exact ⟨rfl, hB⟩
      · exfalso
        omega
  · have hlo := hlo_t rfl
    refine WL.move rfl rfl ?_
    refine WL.pass rfl rfl rfl ?_
    refine WL.pass rfl rfl rfl ?_
    refine WL.pass rfl rfl rfl ?_
    refine WL.pass rfl rfl rfl ?_
    refine WL.pass rfl rfl rfl ?_
    refine WL.pass rfl rfl rfl ?_
    refine WL.passU rfl rfl ?_
    refine WL.passU rfl rfl ?_
    refine WL.passU rfl rfl ?_
    refine WL.passU rfl rfl ?_
    refine WL.passU rfl rfl ?_
    refine WL.passU rfl rfl ?_
    refine WL.passU rfl rfl ?_
    refine WL.passU rfl rfl ?_
    refine WL.passU rfl rfl ?_
    refine WL.passU rfl rfl ?_
    refine WL.passU rfl rfl ?_
    refine WL.passU rfl rfl ?_
    refine WL.passU rfl rfl ?_
    refine WL.passU rfl rfl ?_
    refine WL.pass rfl rfl rfl ?_
    refine WL.pick rfl rfl rfl ?_
    refine WL.done ?_
    refine W.condT rfl ?_
    refine W.seq ?_
    refine W.region ?_
    refine WL.assign rfl rfl ?_
    refine WL.done ?_
    refine W.ret ?_
    refine ⟨_, rfl, ?_⟩
    exact ⟨rfl, hB⟩

set_option maxHeartbeats 4000000 in
theorem RationalPowers_p_errerr {w : World} {Ban : Nat} {Aan : Option Addr} {man can : Nat} {xan : List Nat} (han : Rd Ban w 1 Aan man can (us xan)) {Bad : Nat} {Aad : Option Addr} {mad cad : Nat} {xad : List Nat} (had : Rd Bad w 1 Aad mad cad (us xad)) {na : Bool} (hLan : Lim xan) (hLad : Lim xad) (hza : man * 4 ≤ 140737488351232 ∧ mad * 4 ≤ 140737488351232) {X : Int} (hX : -9223372036854775808 ≤ X ∧ X ≤ 9223372036854775807) (q0 : Rat) (hq0e : val na (nv xan) (nv xad) = q0) (hsg : 0 ≤ X) (h1 : ¬ (qnum q0) ^ X.natAbs < bigN) (h2 : ¬ (q0.den) ^ X.natAbs < bigN) :
    Calls Try.prog 11 #[.agg #[.bool na, .slice Aan man can, .slice Aad mad cad], .int .i64 X] w fun e w2 => ∃ v, e = .returned v ∧ (fun v w2 => v = .bool true ∧ w.grownBy w2 none) v w2 := by
  have han := han.norm
  have han_l := han.ulen
  have han_x := han.max
  simp only [maxLen] at han_x
  have han_c := han.cap
  have had := had.norm
  have had_l := had.ulen
  have had_x := had.max
  simp only [maxLen] at had_x
  have had_c := had.cap
  have han0 := han
  have had0 := had
  obtain ⟨qa, hqa⟩ : ∃ q, val na (nv xan) (nv xad) = q := ⟨_, rfl⟩
  have eq0 : qa = q0 := by rw [← hqa, hq0e]
  subst eq0
  have hB := ext_refl w
  refine calls_of_W (vs := [.agg #[.bool na, .slice Aan man can, .slice Aad mad cad], .int .i64 X]) [4] Try.func11 rfl rfl rfl rfl ?_
  refine W.seq ?_
  refine W.region ?_
  refine WL.box Try.el31 rfl rfl rfl ?_
  intro g11 w12 hg_g11 hVg11 hGw12
  change Own _ _ _ _ _ _ _ [.bool na, .slice Aan man can, .slice Aad mad cad] at hVg11
  have hVg11 := hVg11.low (b' := w.heap.size) hB.size
  have hB := ext_trans hB hGw12
  have han := han0.ext hB
  have had := had0.ext hB
  refine WL.assign rfl rfl ?_
  refine WL.done ?_
  refine W.seq ?_
  refine W.seq ?_
  refine W.region ?_
  refine WL.loadV (cs := [.bool na, .slice Aan man can, .slice Aad mad cad]) Try.el31 Try.agg31 rfl rfl hVg11.vcells rfl ?_
  refine WL.lit (b := w12.heap.size) (cells := [.bool na, .slice Aan man can, .slice Aad mad cad]) Try.underlying44 Try.el31 (by decide) ⟨_, rfl, by kernel_rfl⟩ rfl (Nat.le_refl _) rfl ?_
  rintro A13 w14 - hO15 hGw14
  have hO15 := hO15.low (b' := w.heap.size) hB.size
  have hB := ext_trans hB hGw14
  have han := han0.ext hB
  have had := had0.ext hB
  have hVg11 := hVg11.ext hGw14
  have hN16 : RatsR w14.heap.size w14 [.bool na, .slice Aan man can, .slice Aad mad cad] [(na, xan, xad)] := (RatsR.cons han.norm had.norm (RatsR.nil _ _))
  refine WL.call Try.func17 rfl Try.nm17 rfl rfl (long_c hO15.rd hN16 rfl (RLen.cons (by first | omega | (simp; done) | (simp; omega)) (by first | omega | (simp; done) | (simp; omega)) (RLen.nil _))) ?_
  rintro _ w17 ⟨bhlo, rfl, hGw17, hlo_t, hlo_f⟩
  have hB := ext_trans hB hGw17
  have han := han0.ext hB
  have had := had0.ext hB
  have hVg11 := hVg11.ext hGw17
  rcases bhlo with _ | _
  · have hlo := hlo_f rfl
    have hla : xan.length + xad.length ≤ 6 := hlo 0 (by simp)
    refine WL.move rfl rfl ?_
    refine WL.take rfl ?_
    refine WL.move rfl rfl ?_
    refine WL.take rfl ?_
    refine WL.move rfl rfl ?_
    refine WL.take rfl ?_
    refine WL.neg (r := (negw X)) rfl (negw_wrap hX) rfl ?_
    refine WL.take rfl ?_
    refine WL.max2 (r := (mxw X)) rfl rfl rfl rfl ?_
    refine WL.take rfl ?_
    refine WL.leq rfl rfl rfl (fun c18 => ?_) (fun c18 => ?_)
    · refine WL.take rfl ?_
      refine WL.move rfl rfl ?_
      refine WL.take rfl ?_
      refine WL.fieldA (off := 1) Try.fla31_1 rfl rfl ?_
      refine WL.take rfl ?_
      refine WL.load Try.underlying23 rfl rfl (hVg11.vcells 1 _ rfl) rfl ?_
      refine WL.take rfl ?_
      refine WL.len Try.underlying23 rfl rfl ?_
      refine WL.take rfl ?_
      refine WL.fieldA (off := 2) Try.fla31_2 rfl rfl ?_
      refine WL.take rfl ?_
      refine WL.load Try.underlying23 rfl rfl (hVg11.vcells 2 _ rfl) rfl ?_
      refine WL.take rfl ?_
      refine WL.len Try.underlying23 rfl rfl ?_
      refine WL.take rfl ?_
      refine WL.add (r := ((man + mad : Nat) : Int)) rfl rfl (wi64 (by omega) (by omega) (by omega)) rfl ?_
      refine WL.take rfl ?_
      refine WL.mul (r := ((32 * (man + mad) : Nat) : Int)) rfl rfl (wi64 (by omega) (by omega) (by omega)) rfl ?_
      refine WL.take rfl ?_
      refine WL.move rfl rfl ?_
      refine WL.take rfl ?_
      refine WL.move rfl rfl ?_
      refine WL.take rfl ?_
      refine WL.neg (r := (negw X)) rfl (negw_wrap hX) rfl ?_
      refine WL.take rfl ?_
      refine WL.max2 (r := (mxw X)) rfl rfl rfl rfl ?_
      refine WL.take rfl ?_
      refine WL.mul (r := (IntKind.i64.wrap (((32 * (man + mad) : Nat) : Int) * mxw X))) rfl rfl rfl rfl ?_
      refine WL.take rfl ?_
      refine WL.gtr rfl rfl rfl (fun c19 => ?_) (fun c19 => ?_)
      · refine WL.take rfl ?_
        refine WL.pick rfl rfl rfl ?_
        refine WL.pick rfl rfl rfl ?_
        refine WL.done ?_
        refine W.condT rfl ?_
        refine W.seq ?_
        refine W.region ?_
        refine WL.assign rfl rfl ?_
        refine WL.done ?_
        refine W.ret ?_
        refine ⟨_, rfl, ?_⟩
        exact ⟨rfl, hB⟩
      · refine WL.take rfl ?_
        refine WL.pick rfl rfl rfl ?_
        refine WL.pick rfl rfl rfl ?_
        refine WL.done ?_
        refine W.condF rfl ?_
        refine W.skip ?_
        refine W.seq ?_
        refine W.region ?_
        refine WL.loadV (cs := [.bool na, .slice Aan man can, .slice Aad mad cad]) Try.el31 Try.agg31 rfl rfl hVg11.vcells rfl ?_
        refine WL.move rfl rfl ?_
        refine WL.call Try.func40 rfl Try.nm40 rfl rfl (qPow_p_errerr han had hLan hLad qa hqa (by omega) (by omega) (by omega) hsg h1 h2) ?_
        rintro _ w20 ⟨rfl, hGw20⟩
        have hB := ext_trans hB hGw20
        have han := han0.ext hB
        have had := had0.ext hB
        have hVg11 := hVg11.ext hGw20
        refine WL.move rfl rfl ?_
        refine WL.extract rfl rfl rfl ?_
        refine WL.extract rfl rfl rfl ?_
        refine WL.alloc Try.el31 rfl ?_
        intro g21 w22 hg_g21 hVg21 hGw22
        change Own _ _ _ _ _ _ _ [.bool false, .slice none 0 0, .slice none 0 0] at hVg21
        have hlt_g11_g21 : g11 < g21 := by rw [hg_g21]; exact (hVg11.bl_ge _ rfl).2
        have hVg21 := hVg21.low (b' := w.heap.size) hB.size
        have hB := ext_trans hB hGw22
        have han := han0.ext hB
        have had := had0.ext hB
        have hVg11 := hVg11.ext hGw22
        refine WL.storeV Try.el31 rfl rfl rfl rfl hVg21 ?_
        have hOld24 := hVg21
        intro w23 hVg21 hGw23
        change Own _ _ _ _ _ _ _ [.bool false, .slice none 0 0, .slice none 0 0] at hVg21
        have hB := ext_own hB hGw23 (fun g hg => (hOld24.bl_ge g hg).1)
        have han := han0.ext hB
        have had := had0.ext hB
        have hVg11 := hVg11.grown hGw23 (apart (by omega))
        refine WL.assign rfl rfl ?_
        refine WL.done ?_
        refine W.seq ?_
        refine W.region ?_
        refine WL.loadV (cs := [.bool na, .slice Aan man can, .slice Aad mad cad]) Try.el31 Try.agg31 rfl rfl hVg11.vcells rfl ?_
        refine WL.move rfl rfl ?_
        refine WL.call Try.func41 rfl Try.nm41 rfl rfl (rqPow_p_errerr han had hLan hLad qa hqa (by omega) (by omega) (by omega) hsg h1 h2) ?_
        rintro _ w25 ⟨rfl, hGw25⟩
        have hB := ext_trans hB hGw25
        have hVg11 := hVg11.ext hGw25
        have hVg21 := hVg21.ext hGw25
        refine WL.move rfl rfl ?_
        refine WL.extract rfl rfl rfl ?_
        refine WL.extract rfl rfl rfl ?_
        refine WL.alloc Try.el31 rfl ?_
        intro g26 w27 hg_g26 hVg26 hGw27
        change Own _ _ _ _ _ _ _ [.bool false, .slice none 0 0, .slice none 0 0] at hVg26
        have hlt_g11_g26 : g11 < g26 := by rw [hg_g26]; exact (hVg11.bl_ge _ rfl).2
        have hlt_g21_g26 : g21 < g26 := by rw [hg_g26]; exact (hVg21.bl_ge _ rfl).2
        have hVg26 := hVg26.low (b' := w.heap.size) hB.size
        have hB := ext_trans hB hGw27
        have hVg21 := hVg21.ext hGw27
        refine WL.storeV Try.el31 rfl rfl rfl rfl hVg26 ?_
        have hOld29 := hVg26
        intro w28 hVg26 hGw28
        change Own _ _ _ _ _ _ _ [.bool false, .slice none 0 0, .slice none 0 0] at hVg26
        have hB := ext_own hB hGw28 (fun g hg => (hOld29.bl_ge g hg).1)
        have hVg21 := hVg21.grown hGw28 (apart (by omega))
        refine WL.assign rfl rfl ?_
        refine WL.done ?_
        refine W.seq ?_
        refine W.region ?_
        refine WL.move rfl rfl ?_
        refine WL.move rfl rfl ?_
        refine WL.eql rfl rfl rfl (fun c30 => ?_) (fun c30 => ?_)
        · refine WL.move rfl rfl ?_
          refine WL.take rfl ?_
          refine WL.loadV (cs := [.bool false, .slice none 0 0, .slice none 0 0]) Try.el31 Try.agg31 rfl rfl hVg21.vcells rfl ?_
          refine WL.take rfl ?_
          refine WL.loadV (cs := [.bool false, .slice none 0 0, .slice none 0 0]) Try.el31 Try.agg31 rfl rfl hVg26.vcells rfl ?_
          refine WL.take rfl ?_
          refine WL.call Try.func18 rfl Try.nm18 rfl rfl (qsame_t Rd.nilU Rd.nilU Rd.nilU Rd.nilU ⟨rfl, rfl, rfl⟩) ?_
          rintro _ w31 ⟨rfl, hGw31⟩
          have hB := ext_trans hB hGw31
          refine WL.pick rfl rfl rfl ?_
          refine WL.assign rfl rfl ?_
          refine WL.done ?_
          refine W.ret ?_
          refine ⟨_, rfl, ?_⟩
          exact ⟨rfl, hB⟩
        · exfalso
          omega
    · refine WL.take rfl ?_
      refine WL.move rfl rfl ?_
      refine WL.pass rfl rfl rfl ?_
      refine WL.pass rfl rfl rfl ?_
      refine WL.pass rfl rfl rfl ?_
      refine WL.pass rfl rfl rfl ?_
      refine WL.pass rfl rfl rfl ?_
      refine WL.pass rfl rfl rfl ?_
      refine WL.pass rfl rfl rfl ?_
      refine WL.pass rfl rfl rfl ?_
      refine WL.pass rfl rfl rfl ?_
      refine WL.pass rfl rfl rfl ?_
      refine WL.pass rfl rfl rfl ?_
      refine WL.pass rfl rfl rfl ?_
      refine WL.pass rfl rfl rfl ?_
      refine WL.pass rfl rfl rfl ?_
      refine WL.take rfl ?_
      refine WL.pick rfl rfl rfl ?_
      refine WL.pick rfl rfl rfl ?_
      refine WL.done ?_
      refine W.condF rfl ?_
      refine W.skip ?_
      refine W.seq ?_
      refine W.region ?_
      refine WL.loadV (cs := [.bool na, .slice Aan man can, .slice Aad mad cad]) Try.el31 Try.agg31 rfl rfl hVg11.vcells rfl ?_
      refine WL.move rfl rfl ?_
      refine WL.call Try.func40 rfl Try.nm40 rfl rfl (qPow_p_errerr han had hLan hLad qa hqa (by omega) (by omega) (by omega) hsg h1 h2) ?_
      rintro _ w32 ⟨rfl, hGw32⟩
      have hB := ext_trans hB hGw32
      have han := han0.ext hB
      have had := had0.ext hB
      have hVg11 := hVg11.ext hGw32
      refine WL.move rfl rfl ?_
      refine WL.extract rfl rfl rfl ?_
      refine WL.extract rfl rfl rfl ?_
      refine WL.alloc Try.el31 rfl ?_
      intro g33 w34 hg_g33 hVg33 hGw34
      change Own _ _ _ _ _ _ _ [.bool false, .slice none 0 0, .slice none 0 0] at hVg33
      have hlt_g11_g33 : g11 < g33 := by rw [hg_g33]; exact (hVg11.bl_ge _ rfl).2
      have hVg33 := hVg33.low (b' := w.heap.size) hB.size
      have hB := ext_trans hB hGw34
      have han := han0.ext hB
      have had := had0.ext hB
      have hVg11 := hVg11.ext hGw34
      refine WL.storeV Try.el31 rfl rfl rfl rfl hVg33 ?_
      have hOld36 := hVg33
      intro w35 hVg33 hGw35
      change Own _ _ _ _ _ _ _ [.bool false, .slice none 0 0, .slice none 0 0] at hVg33
      have hB := ext_own hB hGw35 (fun g hg => (hOld36.bl_ge g hg).1)
      have han := han0.ext hB
      have had := had0.ext hB
      have hVg11 := hVg11.grown hGw35 (apart (by omega))
      refine WL.assign rfl rfl ?_
      refine WL.done ?_
      refine W.seq ?_
      refine W.region ?_
      refine WL.loadV (cs := [.bool na, .slice Aan man can, .slice Aad mad cad]) Try.el31 Try.agg31 rfl rfl hVg11.vcells rfl ?_
      refine WL.move rfl rfl ?_
      refine WL.call Try.func41 rfl Try.nm41 rfl rfl (rqPow_p_errerr han had hLan hLad qa hqa (by omega) (by omega) (by omega) hsg h1 h2) ?_
      rintro _ w37 ⟨rfl, hGw37⟩
      have hB := ext_trans hB hGw37
      have hVg11 := hVg11.ext hGw37
      have hVg33 := hVg33.ext hGw37
      refine WL.move rfl rfl ?_
      refine WL.extract rfl rfl rfl ?_
      refine WL.extract rfl rfl rfl ?_
      refine WL.alloc Try.el31 rfl ?_
      intro g38 w39 hg_g38 hVg38 hGw39
      change Own _ _ _ _ _ _ _ [.bool false, .slice none 0 0, .slice none 0 0] at hVg38
      have hlt_g11_g38 : g11 < g38 := by rw [hg_g38]; exact (hVg11.bl_ge _ rfl).2
      have hlt_g33_g38 : g33 < g38 := by rw [hg_g38]; exact (hVg33.bl_ge _ rfl).2
      have hVg38 := hVg38.low (b' := w.heap.size) hB.size
      have hB := ext_trans hB hGw39
      have hVg33 := hVg33.ext hGw39
      refine WL.storeV Try.el31 rfl rfl rfl rfl hVg38 ?_
      have hOld41 := hVg38
      intro w40 hVg38 hGw40
      change Own _ _ _ _ _ _ _ [.bool false, .slice none 0 0, .slice none 0 0] at hVg38
      have hB := ext_own hB hGw40 (fun g hg => (hOld41.bl_ge g hg).1)
      have hVg33 := hVg33.grown hGw40 (apart (by omega))
      refine WL.assign rfl rfl ?_
      refine WL.done ?_
      refine W.seq ?_
      refine W.region ?_
      refine WL.move rfl rfl ?_
      refine WL.move rfl rfl ?_
      refine WL.eql rfl rfl rfl (fun c42 => ?_) (fun c42 => ?_)
      · refine WL.move rfl rfl ?_
        refine WL.take rfl ?_
        refine WL.loadV (cs := [.bool false, .slice none 0 0, .slice none 0 0]) Try.el31 Try.agg31 rfl rfl hVg33.vcells rfl ?_
        refine WL.take rfl ?_
        refine WL.loadV (cs := [.bool false, .slice none 0 0, .slice none 0 0]) Try.el31 Try.agg31 rfl rfl hVg38.vcells rfl ?_
        refine WL.take rfl ?_
        refine WL.call Try.func18 rfl Try.nm18 rfl rfl (qsame_t Rd.nilU Rd.nilU Rd.nilU Rd.nilU ⟨rfl, rfl, rfl⟩) ?_
        rintro _ w43 ⟨rfl, hGw43⟩
        have hB := ext_trans hB hGw43
        refine WL.pick rfl rfl rfl ?_
        refine WL.assign rfl rfl ?_
        refine WL.done ?_
        refine W.ret ?_
        refine ⟨_, rfl, ?_⟩
        exact ⟨rfl, hB⟩
      · exfalso
        omega
  · have hlo := hlo_t rfl
    refine WL.move rfl rfl ?_
    refine WL.pass rfl rfl rfl ?_
    refine WL.pass rfl rfl rfl ?_
    refine WL.pass rfl rfl rfl ?_
    refine WL.pass rfl rfl rfl ?_
    refine WL.pass rfl rfl rfl ?_
    refine WL.pass rfl rfl rfl ?_
    refine WL.passU rfl rfl ?_
    refine WL.passU rfl rfl ?_
    refine WL.passU rfl rfl ?_
    refine WL.passU rfl rfl ?_
    refine WL.passU rfl rfl ?_
    refine WL.passU rfl rfl ?_
    refine WL.passU rfl rfl ?_
    refine WL.passU rfl rfl ?_
    refine WL.passU rfl rfl ?_
    refine WL.passU rfl rfl ?_
    refine WL.passU rfl rfl ?_
    refine WL.passU rfl rfl ?_
    refine WL.passU rfl rfl ?_
    refine WL.passU rfl rfl ?_
    refine WL.pass rfl rfl rfl ?_
    refine WL.pick rfl rfl rfl ?_
    refine WL.done ?_
    refine W.condT rfl ?_
    refine W.seq ?_
    refine W.region ?_
    refine WL.assign rfl rfl ?_
    refine WL.done ?_
    refine W.ret ?_
    refine ⟨_, rfl, ?_⟩
    exact ⟨rfl, hB⟩

set_option maxHeartbeats 4000000 in
theorem RationalPowers_n_okok {w : World} {Ban : Nat} {Aan : Option Addr} {man can : Nat} {xan : List Nat} (han : Rd Ban w 1 Aan man can (us xan)) {Bad : Nat} {Aad : Option Addr} {mad cad : Nat} {xad : List Nat} (had : Rd Bad w 1 Aad mad cad (us xad)) {na : Bool} (hLan : Lim xan) (hLad : Lim xad) (hza : man * 4 ≤ 140737488351232 ∧ mad * 4 ≤ 140737488351232) {X : Int} (hX : -9223372036854775808 ≤ X ∧ X ≤ 9223372036854775807) (q0 : Rat) (hq0e : val na (nv xan) (nv xad) = q0) (hsg : X < 0) (hq0 : q0 ≠ 0) (h1 : (q0.den) ^ X.natAbs < bigN) (h2 : (qnum q0) ^ X.natAbs < bigN) :
    Calls Try.prog 11 #[.agg #[.bool na, .slice Aan man can, .slice Aad mad cad], .int .i64 X] w fun e w2 => ∃ v, e = .returned v ∧ (fun v w2 => v = .bool true ∧ w.grownBy w2 none) v w2 := by
  have han := han.norm
  have han_l := han.ulen
  have han_x := han.max
  simp only [maxLen] at han_x
  have han_c := han.cap
  have had := had.norm
  have had_l := had.ulen
  have had_x := had.max
  simp only [maxLen] at had_x
  have had_c := had.cap
  have han0 := han
  have had0 := had
  obtain ⟨qa, hqa⟩ : ∃ q, val na (nv xan) (nv xad) = q := ⟨_, rfl⟩
  have eq0 : qa = q0 := by rw [← hqa, hq0e]
  subst eq0
  have hB := ext_refl w
  refine calls_of_W (vs := [.agg #[.bool na, .slice Aan man can, .slice Aad mad cad], .int .i64 X]) [4] Try.func11 rfl rfl rfl rfl ?_
  refine W.seq ?_
  refine W.region ?_
  refine WL.box Try.el31 rfl rfl rfl ?_
  intro g11 w12 hg_g11 hVg11 hGw12
  change Own _ _ _ _ _ _ _ [.bool na, .slice Aan man can, .slice Aad mad cad] at hVg11
  have hVg11 := hVg11.low (b' := w.heap.size) hB.size
  have hB := ext_trans hB hGw12
  have han := han0.ext hB
  have had := had0.ext hB
  refine WL.assign rfl rfl ?_
  refine WL.done ?_
  refine W.seq ?_
  refine W.seq ?_
  refine W.region ?_
  refine WL.loadV (cs := [.bool na, .slice Aan man can, .slice Aad mad cad]) Try.el31 Try.agg31 rfl rfl hVg11.vcells rfl ?_
  refine WL.lit (b := w12.heap.size) (cells := [.bool na, .slice Aan man can, .slice Aad mad cad]) Try.underlying44 Try.el31 (by decide) ⟨_, rfl, by kernel_rfl⟩ rfl (Nat.le_refl _) rfl ?_
  rintro A13 w14 - hO15 hGw14
  have hO15 := hO15.low (b' := w.heap.size) hB.size
  have hB := ext_trans hB hGw14
  have han := han0.ext hB
  have had := had0.ext hB
  have hVg11 := hVg11.ext hGw14
  have hN16 : RatsR w14.heap.size w14 [.bool na, .slice Aan man can, .slice Aad mad cad] [(na, xan, xad)] := (RatsR.cons han.norm had.norm (RatsR.nil _ _))
  refine WL.call Try.func17 rfl Try.nm17 rfl rfl (long_c hO15.rd hN16 rfl (RLen.cons (by first | omega | (simp; done) | (simp; omega)) (by first | omega | (simp; done) | (simp; omega)) (RLen.nil _))) ?_
  rintro _ w17 ⟨bhlo, rfl, hGw17, hlo_t, hlo_f⟩
  have hB := ext_trans hB hGw17
  have han := han0.ext hB
  have had := had0.ext hB
  have hVg11 := hVg11.ext hGw17
  rcases bhlo with _ | _
  · have hlo := hlo_f rfl
    have hla : xan.length + xad.length ≤ 6 := hlo 0 (by simp)
    refine WL.move rfl rfl ?_
    refine WL.take rfl ?_
    refine WL.move rfl rfl ?_
    refine WL.take rfl ?_
    refine WL.move rfl rfl ?_
    refine WL.take rfl ?_
    refine WL.neg (r := (negw X)) rfl (negw_wrap hX) rfl ?_
    refine WL.take rfl ?_
    refine WL.max2 (r := (mxw X)) rfl rfl rfl rfl ?_
    refine WL.take rfl ?_
    refine WL.leq rfl rfl rfl (fun c18 => ?_) (fun c18 => ?_)
    · refine WL.take rfl ?_
      refine WL.move rfl rfl ?_
      refine WL.take rfl ?_
      refine WL.fieldA (off := 1) Try.fla31_1 rfl rfl ?_
      refine WL.take rfl ?_
      refine WL.load Try.underlying23 rfl rfl (hVg11.vcells 1 _ rfl) rfl ?_
      refine WL.take rfl ?_
      refine WL.len Try.underlying23 rfl rfl ?_
      refine WL.take rfl ?_
      refine WL.fieldA (off := 2) Try.fla31_2 rfl rfl ?_
      refine WL.take rfl ?_
      refine WL.load Try.underlying23 rfl rfl (hVg11.vcells 2 _ rfl) rfl ?_
      refine WL.take rfl ?_
      refine WL.len Try.underlying23 rfl rfl ?_
      refine WL.take rfl ?_
      refine WL.add (r := ((man + mad : Nat) : Int)) rfl rfl (wi64 (by omega) (by omega) (by omega)) rfl ?_
      refine WL.take rfl ?_
      refine WL.mul (r := ((32 * (man + mad) : Nat) : Int)) rfl rfl (wi64 (by omega) (by omega) (by omega)) rfl ?_
      refine WL.take rfl ?_
      refine WL.move rfl rfl ?_
      refine WL.take rfl ?_
      refine WL.move rfl rfl ?_
      refine WL.take rfl ?_
      refine WL.neg (r := (negw X)) rfl (negw_wrap hX) rfl ?_
      refine WL.take rfl ?_
      refine WL.max2 (r := (mxw X)) rfl rfl rfl rfl ?_
      refine WL.take rfl ?_
      refine WL.mul (r := (IntKind.i64.wrap (((32 * (man + mad) : Nat) : Int) * mxw X))) rfl rfl rfl rfl ?_
      refine WL.take rfl ?_
      refine WL.gtr rfl rfl rfl (fun c19 => ?_) (fun c19 => ?_)
      · refine WL.take rfl ?_
        refine WL.pick rfl rfl rfl ?_
        refine WL.pick rfl rfl rfl ?_
        refine WL.done ?_
        refine W.condT rfl ?_
        refine W.seq ?_
        refine W.region ?_
        refine WL.assign rfl rfl ?_
        refine WL.done ?_
        refine W.ret ?_
        refine ⟨_, rfl, ?_⟩
        exact ⟨rfl, hB⟩
      · refine WL.take rfl ?_
        refine WL.pick rfl rfl rfl ?_
        refine WL.pick rfl rfl rfl ?_
        refine WL.done ?_
        refine W.condF rfl ?_
        refine W.skip ?_
        refine W.seq ?_
        refine W.region ?_
        refine WL.loadV (cs := [.bool na, .slice Aan man can, .slice Aad mad cad]) Try.el31 Try.agg31 rfl rfl hVg11.vcells rfl ?_
        refine WL.move rfl rfl ?_
        refine WL.call Try.func40 rfl Try.nm40 rfl rfl (qPow_n_okok han had hLan hLad qa hqa (by omega) (by omega) (by omega) hsg hq0 h1 h2) ?_
        rintro _ w20 ⟨A21, m22, c23, A24, m25, c26, rfl, hGw20, hpn, hpd, hpm⟩
        have hpn := hpn.low (b' := w.heap.size) hB.size
        have hpd := hpd.low (b' := w.heap.size) hB.size
        have hB := ext_trans hB hGw20
        have han := han0.ext hB
        have had := had0.ext hB
        have hVg11 := hVg11.ext hGw20
        have hpn_l := hpn.rd.ulen
        have hpd_l := hpd.rd.ulen
        refine WL.move rfl rfl ?_
        refine WL.extract rfl rfl rfl ?_
        refine WL.extract rfl rfl rfl ?_
        refine WL.alloc Try.el31 rfl ?_
        intro g27 w28 hg_g27 hVg27 hGw28
        change Own _ _ _ _ _ _ _ [.bool false, .slice none 0 0, .slice none 0 0] at hVg27
        have hlt_g11_g27 : g11 < g27 := by rw [hg_g27]; exact (hVg11.bl_ge _ rfl).2
        have hap_hpn_g27 := ap_old hpn hg_g27
        have hap_hpd_g27 := ap_old hpd hg_g27
        have hVg27 := hVg27.low (b' := w.heap.size) hB.size
        have hB := ext_trans hB hGw28
        have han := han0.ext hB
        have had := had0.ext hB
        have hVg11 := hVg11.ext hGw28
        have hpn := hpn.ext hGw28
        have hpd := hpd.ext hGw28
        refine WL.storeV Try.el31 rfl rfl rfl rfl hVg27 ?_
        have hOld30 := hVg27
        intro w29 hVg27 hGw29
        change Own _ _ _ _ _ _ _ [.bool (qneg (qa ^ X)), .slice A21 m22 c23, .slice A24 m25 c26] at hVg27
        have hB := ext_own hB hGw29 (fun g hg => (hOld30.bl_ge g hg).1)
        have han := han0.ext hB
        have had := had0.ext hB
        have hVg11 := hVg11.grown hGw29 (apart (by omega))
        have hpn := hpn.grown hGw29 (ap_row (by first | exact hap_hpn_g27 | exact ap_type hpn hOld30 (by decide)))
        have hpd := hpd.grown hGw29 (ap_row (by first | exact hap_hpd_g27 | exact ap_type hpd hOld30 (by decide)))
        refine WL.assign rfl rfl ?_
        refine WL.done ?_
        refine W.seq ?_
        refine W.region ?_
        refine WL.loadV (cs := [.bool na, .slice Aan man can, .slice Aad mad cad]) Try.el31 Try.agg31 rfl rfl hVg11.vcells rfl ?_
        refine WL.move rfl rfl ?_
        refine WL.call Try.func41 rfl Try.nm41 rfl rfl (rqPow_n_okok han had hLan hLad qa hqa (by omega) (by omega) (by omega) hsg hq0 h1 h2) ?_
        rintro _ w31 ⟨A32, m33, c34, A35, m36, c37, rfl, hGw31, hrn, hrd, hrm⟩
        have hrn := hrn.low (b' := w.heap.size) hB.size
        have hrd := hrd.low (b' := w.heap.size) hB.size
        have hB := ext_trans hB hGw31
        have hVg11 := hVg11.ext hGw31
        have hpn := hpn.ext hGw31
        have hpd := hpd.ext hGw31
        have hVg27 := hVg27.ext hGw31
        have hrn_l := hrn.rd.ulen
        have hrd_l := hrd.rd.ulen
        refine WL.move rfl rfl ?_
        refine WL.extract rfl rfl rfl ?_
        refine WL.extract rfl rfl rfl ?_
        refine WL.alloc Try.el31 rfl ?_
        intro g38 w39 hg_g38 hVg38 hGw39
        change Own _ _ _ _ _ _ _ [.bool false, .slice none 0 0, .slice none 0 0] at hVg38
        have hlt_g11_g38 : g11 < g38 := by rw [hg_g38]; exact (hVg11.bl_ge _ rfl).2
        have hlt_g27_g38 : g27 < g38 := by rw [hg_g38]; exact (hVg27.bl_ge _ rfl).2
        have hap_hpn_g38 := ap_old hpn hg_g38
        have hap_hpd_g38 := ap_old hpd hg_g38
        have hap_hrn_g38 := ap_old hrn hg_g38
        have hap_hrd_g38 := ap_old hrd hg_g38
        have hVg38 := hVg38.low (b' := w.heap.size) hB.size
        have hB := ext_trans hB hGw39
        have hpn := hpn.ext hGw39
        have hpd := hpd.ext hGw39
        have hVg27 := hVg27.ext hGw39
        have hrn := hrn.ext hGw39
        have hrd := hrd.ext hGw39
        refine WL.storeV Try.el31 rfl rfl rfl rfl hVg38 ?_
        have hOld41 := hVg38
        intro w40 hVg38 hGw40
        change Own _ _ _ _ _ _ _ [.bool (qneg (qa ^ X)), .slice A32 m33 c34, .slice A35 m36 c37] at hVg38
        have hB := ext_own hB hGw40 (fun g hg => (hOld41.bl_ge g hg).1)
        have hpn := hpn.grown hGw40 (ap_row (by first | exact hap_hpn_g38 | exact ap_type hpn hOld41 (by decide)))
        have hpd := hpd.grown hGw40 (ap_row (by first | exact hap_hpd_g38 | exact ap_type hpd hOld41 (by decide)))
        have hVg27 := hVg27.grown hGw40 (apart (by omega))
        have hrn := hrn.grown hGw40 (ap_row (by first | exact hap_hrn_g38 | exact ap_type hrn hOld41 (by decide)))
        have hrd := hrd.grown hGw40 (ap_row (by first | exact hap_hrd_g38 | exact ap_type hrd hOld41 (by decide)))
        refine WL.assign rfl rfl ?_
        refine WL.done ?_
        refine W.seq ?_
        refine W.region ?_
        refine WL.move rfl rfl ?_
        refine WL.move rfl rfl ?_
        refine WL.eql rfl rfl rfl (fun c42 => ?_) (fun c42 => ?_)
        · refine WL.move rfl rfl ?_
          refine WL.take rfl ?_
          refine WL.loadV (cs := [.bool (qneg (qa ^ X)), .slice A21 m22 c23, .slice A24 m25 c26]) Try.el31 Try.agg31 rfl rfl hVg27.vcells rfl ?_
          refine WL.take rfl ?_
          refine WL.loadV (cs := [.bool (qneg (qa ^ X)), .slice A32 m33 c34, .slice A35 m36 c37]) Try.el31 Try.agg31 rfl rfl hVg38.vcells rfl ?_
          refine WL.take rfl ?_
          refine WL.call Try.func18 rfl Try.nm18 rfl rfl (qsame_t hpn.rd hpd.rd hrn.rd hrd.rd ⟨rfl, rfl, rfl⟩) ?_
          rintro _ w43 ⟨rfl, hGw43⟩
          have hB := ext_trans hB hGw43
          refine WL.pick rfl rfl rfl ?_
          refine WL.assign rfl rfl ?_
          refine WL.done ?_
          refine W.ret ?_
          refine ⟨_, rfl, ?_⟩
          exact ⟨rfl, hB⟩
        · exfalso
          omega
    · refine WL.take rfl ?_
      refine WL.move rfl rfl ?_
      refine WL.pass rfl rfl rfl ?_
      refine WL.pass rfl rfl rfl ?_
      refine WL.pass rfl rfl rfl ?_
      refine WL.pass rfl rfl rfl ?_
      refine WL.pass rfl rfl rfl ?_
      refine WL.pass rfl rfl rfl ?_
      refine WL.pass rfl rfl rfl ?_
      refine WL.pass rfl rfl rfl ?_
      refine WL.pass rfl rfl rfl ?_
      refine WL.pass rfl rfl rfl ?_
      refine WL.pass rfl rfl rfl ?_
      refine WL.pass rfl rfl rfl ?_
      refine WL.pass rfl rfl rfl ?_
      refine WL.pass rfl rfl rfl ?_
      refine WL.take rfl ?_
      refine WL.pick rfl rfl rfl ?_
      refine WL.pick rfl rfl rfl ?_
      refine WL.done ?_
      refine W.condF rfl ?_
      refine W.skip ?_
      refine W.seq ?_
      refine W.region ?_
      refine WL.loadV (cs := [.bool na, .slice Aan man can, .slice Aad mad cad]) Try.el31 Try.agg31 rfl rfl hVg11.vcells rfl ?_
      refine WL.move rfl rfl ?_
      refine WL.call Try.func40 rfl Try.nm40 rfl rfl (qPow_n_okok han had hLan hLad qa hqa (by omega) (by omega) (by omega) hsg hq0 h1 h2) ?_
      rintro _ w44 ⟨A45, m46, c47, A48, m49, c50, rfl, hGw44, hpn, hpd, hpm⟩
      have hpn := hpn.low (b' := w.heap.size) hB.size
      have hpd := hpd.low (b' := w.heap.size) hB.size
      have hB := ext_trans hB hGw44
      have han := han0.ext hB
      have had := had0.ext hB
      have hVg11 := hVg11.ext hGw44
      have hpn_l := hpn.rd.ulen
      have hpd_l := hpd.rd.ulen
      refine WL.move rfl rfl ?_
      refine WL.extract rfl rfl rfl ?_
      refine WL.extract rfl rfl rfl ?_
      refine WL.alloc Try.el31 rfl ?_
      intro g51 w52 hg_g51 hVg51 hGw52
      change Own _ _ _ _ _ _ _ [.bool false, .slice none 0 0, .slice none 0 0] at hVg51
      have hlt_g11_g51 : g11 < g51 := by rw [hg_g51]; exact (hVg11.bl_ge _ rfl).2
      have hap_hpn_g51 := ap_old hpn hg_g51
      have hap_hpd_g51 := ap_old hpd hg_g51
      have hVg51 := hVg51.low (b' := w.heap.size) hB.size
      have hB := ext_trans hB hGw52
      have han := han0.ext hB
      have had := had0.ext hB
      have hVg11 := hVg11.ext hGw52
      have hpn := hpn.ext hGw52
      have hpd := hpd.ext hGw52
      refine WL.storeV Try.el31 rfl rfl rfl rfl hVg51 ?_
      have hOld54 := hVg51
      intro w53 hVg51 hGw53
      change Own _ _ _ _ _ _ _ [.bool (qneg (qa ^ X)), .slice A45 m46 c47, .slice A48 m49 c50] at hVg51
      have hB := ext_own hB hGw53 (fun g hg => (hOld54.bl_ge g hg).1)
      have han := han0.ext hB
      have had := had0.ext hB
      have hVg11 := hVg11.grown hGw53 (apart (by omega))
      have hpn := hpn.grown hGw53 (ap_row (by first | exact hap_hpn_g51 | exact ap_type hpn hOld54 (by decide)))
      have hpd := hpd.grown hGw53 (ap_row (by first | exact hap_hpd_g51 | exact ap_type hpd hOld54 (by decide)))
      refine WL.assign rfl rfl ?_
      refine WL.done ?_
      refine W.seq ?_
      refine W.region ?_
      refine WL.loadV (cs := [.bool na, .slice Aan man can, .slice Aad mad cad]) Try.el31 Try.agg31 rfl rfl hVg11.vcells rfl ?_
      refine WL.move rfl rfl ?_
      refine WL.call Try.func41 rfl Try.nm41 rfl rfl (rqPow_n_okok han had hLan hLad qa hqa (by omega) (by omega) (by omega) hsg hq0 h1 h2) ?_
      rintro _ w55 ⟨A56, m57, c58, A59, m60, c61, rfl, hGw55, hrn, hrd, hrm⟩
      have hrn := hrn.low (b' := w.heap.size) hB.size
      have hrd := hrd.low (b' := w.heap.size) hB.size
      have hB := ext_trans hB hGw55
      have hVg11 := hVg11.ext hGw55
      have hpn := hpn.ext hGw55
      have hpd := hpd.ext hGw55
      have hVg51 := hVg51.ext hGw55
      have hrn_l := hrn.rd.ulen
      have hrd_l := hrd.rd.ulen
      refine WL.move rfl rfl ?_
      refine WL.extract rfl rfl rfl ?_
      refine WL.extract rfl rfl rfl ?_
      refine WL.alloc Try.el31 rfl ?_
      intro g62 w63 hg_g62 hVg62 hGw63
      change Own _ _ _ _ _ _ _ [.bool false, .slice none 0 0, .slice none 0 0] at hVg62
      have hlt_g11_g62 : g11 < g62 := by rw [hg_g62]; exact (hVg11.bl_ge _ rfl).2
      have hlt_g51_g62 : g51 < g62 := by rw [hg_g62]; exact (hVg51.bl_ge _ rfl).2
      have hap_hpn_g62 := ap_old hpn hg_g62
      have hap_hpd_g62 := ap_old hpd hg_g62
      have hap_hrn_g62 := ap_old hrn hg_g62
      have hap_hrd_g62 := ap_old hrd hg_g62
      have hVg62 := hVg62.low (b' := w.heap.size) hB.size
      have hB := ext_trans hB hGw63
      have hpn := hpn.ext hGw63
      have hpd := hpd.ext hGw63
      have hVg51 := hVg51.ext hGw63
      have hrn := hrn.ext hGw63
      have hrd := hrd.ext hGw63
      refine WL.storeV Try.el31 rfl rfl rfl rfl hVg62 ?_
      have hOld65 := hVg62
      intro w64 hVg62 hGw64
      change Own _ _ _ _ _ _ _ [.bool (qneg (qa ^ X)), .slice A56 m57 c58, .slice A59 m60 c61] at hVg62
      have hB := ext_own hB hGw64 (fun g hg => (hOld65.bl_ge g hg).1)
      have hpn := hpn.grown hGw64 (ap_row (by first | exact hap_hpn_g62 | exact ap_type hpn hOld65 (by decide)))
      have hpd := hpd.grown hGw64 (ap_row (by first | exact hap_hpd_g62 | exact ap_type hpd hOld65 (by decide)))
      have hVg51 := hVg51.grown hGw64 (apart (by omega))
      have hrn := hrn.grown hGw64 (ap_row (by first | exact hap_hrn_g62 | exact ap_type hrn hOld65 (by decide)))
      have hrd := hrd.grown hGw64 (ap_row (by first | exact hap_hrd_g62 | exact ap_type hrd hOld65 (by decide)))
      refine WL.assign rfl rfl ?_
      refine WL.done ?_
      refine W.seq ?_
      refine W.region ?_
      refine WL.move rfl rfl ?_
      refine WL.move rfl rfl ?_
      refine WL.eql rfl rfl rfl (fun c66 => ?_) (fun c66 => ?_)
      · refine WL.move rfl rfl ?_
        refine WL.take rfl ?_
        refine WL.loadV (cs := [.bool (qneg (qa ^ X)), .slice A45 m46 c47, .slice A48 m49 c50]) Try.el31 Try.agg31 rfl rfl hVg51.vcells rfl ?_
        refine WL.take rfl ?_
        refine WL.loadV (cs := [.bool (qneg (qa ^ X)), .slice A56 m57 c58, .slice A59 m60 c61]) Try.el31 Try.agg31 rfl rfl hVg62.vcells rfl ?_
        refine WL.take rfl ?_
        refine WL.call Try.func18 rfl Try.nm18 rfl rfl (qsame_t hpn.rd hpd.rd hrn.rd hrd.rd ⟨rfl, rfl, rfl⟩) ?_
        rintro _ w67 ⟨rfl, hGw67⟩
        have hB := ext_trans hB hGw67
        refine WL.pick rfl rfl rfl ?_
        refine WL.assign rfl rfl ?_
        refine WL.done ?_
        refine W.ret ?_
        refine ⟨_, rfl, ?_⟩
        exact ⟨rfl, hB⟩
      · exfalso
        omega
  · have hlo := hlo_t rfl
    refine WL.move rfl rfl ?_
    refine WL.pass rfl rfl rfl ?_
    refine WL.pass rfl rfl rfl ?_
    refine WL.pass rfl rfl rfl ?_
    refine WL.pass rfl rfl rfl ?_
    refine WL.pass rfl rfl rfl ?_
    refine WL.pass rfl rfl rfl ?_
    refine WL.passU rfl rfl ?_
    refine WL.passU rfl rfl ?_
    refine WL.passU rfl rfl ?_
    refine WL.passU rfl rfl ?_
    refine WL.passU rfl rfl ?_
    refine WL.passU rfl rfl ?_
    refine WL.passU rfl rfl ?_
    refine WL.passU rfl rfl ?_
    refine WL.passU rfl rfl ?_
    refine WL.passU rfl rfl ?_
    refine WL.passU rfl rfl ?_
    refine WL.passU rfl rfl ?_
    refine WL.passU rfl rfl ?_
    refine WL.passU rfl rfl ?_
    refine WL.pass rfl rfl rfl ?_
    refine WL.pick rfl rfl rfl ?_
    refine WL.done ?_
    refine W.condT rfl ?_
    refine W.seq ?_
    refine W.region ?_
    refine WL.assign rfl rfl ?_
    refine WL.done ?_
    refine W.ret ?_
    refine ⟨_, rfl, ?_⟩
    exact ⟨rfl, hB⟩

set_option maxHeartbeats 4000000 in
theorem RationalPowers_n_okerr {w : World} {Ban : Nat} {Aan : Option Addr} {man can : Nat} {xan : List Nat} (han : Rd Ban w 1 Aan man can (us xan)) {Bad : Nat} {Aad : Option Addr} {mad cad : Nat} {xad : List Nat} (had : Rd Bad w 1 Aad mad cad (us xad)) {na : Bool} (hLan : Lim xan) (hLad : Lim xad) (hza : man * 4 ≤ 140737488351232 ∧ mad * 4 ≤ 140737488351232) {X : Int} (hX : -9223372036854775808 ≤ X ∧ X ≤ 9223372036854775807) (q0 : Rat) (hq0e : val na (nv xan) (nv xad) = q0) (hsg : X < 0) (hq0 : q0 ≠ 0) (h1 : (q0.den) ^ X.natAbs < bigN) (h2 : ¬ (qnum q0) ^ X.natAbs < bigN) :
    Calls Try.prog 11 #[.agg #[.bool na, .slice Aan man can, .slice Aad mad cad], .int .i64 X] w fun e w2 => ∃ v, e = .returned v ∧ (fun v w2 => v = .bool true ∧ w.grownBy w2 none) v w2 := by
  have han := han.norm
  have han_l := han.ulen
  have han_x := han.max
  simp only [maxLen] at han_x
  have han_c := han.cap
  have had := had.norm
  have had_l := had.ulen
  have had_x := had.max
  simp only [maxLen] at had_x
  have had_c := had.cap
  have han0 := han
  have had0 := had
  obtain ⟨qa, hqa⟩ : ∃ q, val na (nv xan) (nv xad) = q := ⟨_, rfl⟩
  have eq0 : qa = q0 := by rw [← hqa, hq0e]
  subst eq0
  have hB := ext_refl w
  refine calls_of_W (vs := [.agg #[.bool na, .slice Aan man can, .slice Aad mad cad], .int .i64 X]) [4] Try.func11 rfl rfl rfl rfl ?_
  refine W.seq ?_
  refine W.region ?_
  refine WL.box Try.el31 rfl rfl rfl ?_
  intro g11 w12 hg_g11 hVg11 hGw12
  change Own _ _ _ _ _ _ _ [.bool na, .slice Aan man can, .slice Aad mad cad] at hVg11
  have hVg11 := hVg11.low (b' := w.heap.size) hB.size
  have hB := ext_trans hB hGw12
  have han := han0.ext hB
  have had := had0.ext hB
  refine WL.assign rfl rfl ?_
  refine WL.done ?_
  refine W.seq ?_
  refine W.seq ?_
  refine W.region ?_
  refine WL.loadV (cs := [.bool na, .slice Aan man can, .slice Aad mad cad]) Try.el31 Try.agg31 rfl rfl hVg11.vcells rfl ?_
  refine WL.lit (b := w12.heap.size) (cells := [.bool na, .slice Aan man can, .slice Aad mad cad]) Try.underlying44 Try.el31 (by decide) ⟨_, rfl, by kernel_rfl⟩ rfl (Nat.le_refl _) rfl ?_
  rintro A13 w14 - hO15 hGw14
  have hO15 := hO15.low (b' := w.heap.size) hB.size
  have hB := ext_trans hB hGw14
  have han := han0.ext hB
  have had := had0.ext hB
  have hVg11 := hVg11.ext hGw14
  have hN16 : RatsR w14.heap.size w14 [.bool na, .slice Aan man can, .slice Aad mad cad] [(na, xan, xad)] := (RatsR.cons han.norm had.norm (RatsR.nil _ _))
  refine WL.call Try.func17 rfl Try.nm17 rfl rfl (long_c hO15.rd hN16 rfl (RLen.cons (by first | omega | (simp; done) | (simp; omega)) (by first | omega | (simp; done) | (simp; omega)) (RLen.nil _))) ?_
  rintro _ w17 ⟨bhlo, rfl, hGw17, hlo_t, hlo_f⟩
  have hB := ext_trans hB hGw17
  have han := han0.ext hB
  have had := had0.ext hB
  have hVg11 := hVg11.ext hGw17
  rcases bhlo with _ | _
  · have hlo := hlo_f rfl
    have hla : xan.length + xad.length ≤ 6 := hlo 0 (by simp)
    refine WL.move rfl rfl ?_
    refine WL.take rfl ?_
    refine WL.move rfl rfl ?_
    refine WL.take rfl ?_
    refine WL.move rfl rfl ?_
    refine WL.take rfl ?_
    refine WL.neg (r := (negw X)) rfl (negw_wrap hX) rfl ?_
    refine WL.take rfl ?_
    refine WL.max2 (r := (mxw X)) rfl rfl rfl rfl ?_
    refine WL.take rfl ?_
    refine WL.leq rfl rfl rfl (fun c18 => ?_) (fun c18 => ?_)
    · refine WL.take rfl ?_
      refine WL.move rfl rfl ?_
      refine WL.take rfl ?_
      refine WL.fieldA (off := 1) Try.fla31_1 rfl rfl ?_
      refine WL.take rfl ?_
      refine WL.load Try.underlying23 rfl rfl (hVg11.vcells 1 _ rfl) rfl ?_
      refine WL.take rfl ?_
      refine WL.len Try.underlying23 rfl rfl ?_
      refine WL.take rfl ?_
      refine WL.fieldA (off := 2) Try.fla31_2 rfl rfl ?_
      refine WL.take rfl ?_
      refine WL.load Try.underlying23 rfl rfl (hVg11.vcells 2 _ rfl) rfl ?_
      refine WL.take rfl ?_
      refine WL.len Try.underlying23 rfl rfl ?_
      refine WL.take rfl ?_
      refine WL.add (r := ((man + mad : Nat) : Int)) rfl rfl (wi64 (by omega) (by omega) (by omega)) rfl ?_
      refine WL.take rfl ?_
      refine WL.mul (r := ((32 * (man + mad) : Nat) : Int)) rfl rfl (wi64 (by omega) (by omega) (by omega)) rfl ?_
      refine WL.take rfl ?_
      refine WL.move rfl rfl ?_
      refine WL.take rfl ?_
      refine WL.move rfl rfl ?_
      refine WL.take rfl ?_
      refine WL.neg (r := (negw X)) rfl (negw_wrap hX) rfl ?_
      refine WL.take rfl ?_
      refine WL.max2 (r := (mxw X)) rfl rfl rfl rfl ?_
      refine WL.take rfl ?_
      refine WL.mul (r := (IntKind.i64.wrap (((32 * (man + mad) : Nat) : Int) * mxw X))) rfl rfl rfl rfl ?_
      refine WL.take rfl ?_
      refine WL.gtr rfl rfl rfl (fun c19 => ?_) (fun c19 => ?_)
      · refine WL.take rfl ?_
        refine WL.pick rfl rfl rfl ?_
        refine WL.pick rfl rfl rfl ?_
        refine WL.done ?_
        refine W.condT rfl ?_
        refine W.seq ?_
        refine W.region ?_
        refine WL.assign rfl rfl ?_
        refine WL.done ?_
        refine W.ret ?_
        refine ⟨_, rfl, ?_⟩
        exact ⟨rfl, hB⟩
      · refine WL.take rfl ?_
        refine WL.pick rfl rfl rfl ?_
        refine WL.pick rfl rfl rfl ?_
        refine WL.done ?_
        refine W.condF rfl ?_
        refine W.skip ?_
        refine W.seq ?_
        refine W.region ?_
        refine WL.loadV (cs := [.bool na, .slice Aan man can, .slice Aad mad cad]) Try.el31 Try.agg31 rfl rfl hVg11.vcells rfl ?_
        refine WL.move rfl rfl ?_
        refine WL.call Try.func40 rfl Try.nm40 rfl rfl (qPow_n_okerr han had hLan hLad qa hqa (by omega) (by omega) (by omega) hsg hq0 h1 h2) ?_
        rintro _ w20 ⟨rfl, hGw20⟩
        have hB := ext_trans hB hGw20
        have han := han0.ext hB
        have had := had0.ext hB
        have hVg11 := hVg11.ext hGw20
        refine WL.move rfl rfl ?_
        refine WL.extract rfl rfl rfl ?_
        refine WL.extract rfl rfl rfl ?_
        refine WL.alloc Try.el31 rfl ?_
        intro g21 w22 hg_g21 hVg21 hGw22
        change Own _ _ _ _ _ _ _ [.bool false, .slice none 0 0, .slice none 0 0] at hVg21
        have hlt_g11_g21 : g11 < g21 := by rw [hg_g21]; exact (hVg11.bl_ge _ rfl).2
        have hVg21 := hVg21.low (b' := w.heap.size) hB.size
        have hB := ext_trans hB hGw22
        have han := han0.ext hB
        have had := had0.ext hB
        have hVg11 := hVg11.ext hGw22
        refine WL.storeV Try.el31 rfl rfl rfl rfl hVg21 ?_
        have hOld24 := hVg21
        intro w23 hVg21 hGw23
        change Own _ _ _ _ _ _ _ [.bool false, .slice none 0 0, .slice none 0 0] at hVg21
        have hB := ext_own hB hGw23 (fun g hg => (hOld24.bl_ge g hg).1)
        have han := han0.ext hB
        have had := had0.ext hB
        have hVg11 := hVg11.grown hGw23 (apart (by omega))
        refine WL.assign rfl rfl ?_
        refine WL.done ?_
        refine W.seq ?_
        refine W.region ?_
        refine WL.loadV (cs := [.bool na, .slice Aan man can, .slice Aad mad cad]) Try.el31 Try.agg31 rfl rfl hVg11.vcells rfl ?_
        refine WL.move rfl rfl ?_
        refine WL.call Try.func41 rfl Try.nm41 rfl rfl (rqPow_n_okerr han had hLan hLad qa hqa (by omega) (by omega) (by omega) hsg hq0 h1 h2) ?_
        rintro _ w25 ⟨rfl, hGw25⟩
        have hB := ext_trans hB hGw25
        have hVg11 := hVg11.ext hGw25
        have hVg21 := hVg21.ext hGw25
        refine WL.move rfl rfl ?_
        refine WL.extract rfl rfl rfl ?_
        refine WL.extract rfl rfl rfl ?_
        refine WL.alloc Try.el31 rfl ?_
        intro g26 w27 hg_g26 hVg26 hGw27
        change Own _ _ _ _ _ _ _ [.bool false, .slice none 0 0, .slice none 0 0] at hVg26
        have hlt_g11_g26 : g11 < g26 := by rw [hg_g26]; exact (hVg11.bl_ge _ rfl).2
        have hlt_g21_g26 : g21 < g26 := by rw [hg_g26]; exact (hVg21.bl_ge _ rfl).2
        have hVg26 := hVg26.low (b' := w.heap.size) hB.size
        have hB := ext_trans hB hGw27
        have hVg21 := hVg21.ext hGw27
        refine WL.storeV Try.el31 rfl rfl rfl rfl hVg26 ?_
        have hOld29 := hVg26
        intro w28 hVg26 hGw28
        change Own _ _ _ _ _ _ _ [.bool false, .slice none 0 0, .slice none 0 0] at hVg26
        have hB := ext_own hB hGw28 (fun g hg => (hOld29.bl_ge g hg).1)
        have hVg21 := hVg21.grown hGw28 (apart (by omega))
        refine WL.assign rfl rfl ?_
        refine WL.done ?_
        refine W.seq ?_
        refine W.region ?_
        refine WL.move rfl rfl ?_
        refine WL.move rfl rfl ?_
        refine WL.eql rfl rfl rfl (fun c30 => ?_) (fun c30 => ?_)
        · refine WL.move rfl rfl ?_
          refine WL.take rfl ?_
          refine WL.loadV (cs := [.bool false, .slice none 0 0, .slice none 0 0]) Try.el31 Try.agg31 rfl rfl hVg21.vcells rfl ?_
          refine WL.take rfl ?_
          refine WL.loadV (cs := [.bool false, .slice none 0 0, .slice none 0 0]) Try.el31 Try.agg31 rfl rfl hVg26.vcells rfl ?_
          refine WL.take rfl ?_
          refine WL.call Try.func18 rfl Try.nm18 rfl rfl (qsame_t Rd.nilU Rd.nilU Rd.nilU Rd.nilU ⟨rfl, rfl, rfl⟩) ?_
          rintro _ w31 ⟨rfl, hGw31⟩
          have hB := ext_trans hB hGw31
          refine WL.pick rfl rfl rfl ?_
          refine WL.assign rfl rfl ?_
          refine WL.done ?_
          refine W.ret ?_
          refine ⟨_, rfl, ?_⟩
          exact ⟨rfl, hB⟩
        · exfalso
          omega
    · refine WL.take rfl ?_
      refine WL.move rfl rfl ?_
      refine WL.pass rfl rfl rfl ?_
      refine WL.pass rfl rfl rfl ?_
      refine WL.pass rfl rfl rfl ?_
      refine WL.pass rfl rfl rfl ?_
      refine WL.pass rfl rfl rfl ?_
      refine WL.pass rfl rfl rfl ?_
      refine WL.pass rfl rfl rfl ?_
      refine WL.pass rfl rfl rfl ?_
      refine WL.pass rfl rfl rfl ?_
      refine WL.pass rfl rfl rfl ?_
      refine WL.pass rfl rfl rfl ?_
      refine WL.pass rfl rfl rfl ?_
      refine WL.pass rfl rfl rfl ?_
      refine WL.pass rfl rfl rfl ?_
      refine WL.take rfl ?_
      refine WL.pick rfl rfl rfl ?_
      refine WL.pick rfl rfl rfl ?_
      refine WL.done ?_
      refine W.condF rfl ?_
      refine W.skip ?_
      refine W.seq ?_
      refine W.region ?_
      refine WL.loadV (cs := [.bool na, .slice Aan man can, .slice Aad mad cad]) Try.el31 Try.agg31 rfl rfl hVg11.vcells rfl ?_
      refine WL.move rfl rfl ?_
      refine WL.call Try.func40 rfl Try.nm40 rfl rfl (qPow_n_okerr han had hLan hLad qa hqa (by omega) (by omega) (by omega) hsg hq0 h1 h2) ?_
      rintro _ w32 ⟨rfl, hGw32⟩
      have hB := ext_trans hB hGw32
      have han := han0.ext hB
      have had := had0.ext hB
      have hVg11 := hVg11.ext hGw32
      refine WL.move rfl rfl ?_
      refine WL.extract rfl rfl rfl ?_
      refine WL.extract rfl rfl rfl ?_
      refine WL.alloc Try.el31 rfl ?_
      intro g33 w34 hg_g33 hVg33 hGw34
      change Own _ _ _ _ _ _ _ [.bool false, .slice none 0 0, .slice none 0 0] at hVg33
      have hlt_g11_g33 : g11 < g33 := by rw [hg_g33]; exact (hVg11.bl_ge _ rfl).2
      have hVg33 := hVg33.low (b' := w.heap.size) hB.size
      have hB := ext_trans hB hGw34
      have han := han0.ext hB
      have had := had0.ext hB
      have hVg11 := hVg11.ext hGw34
      refine WL.storeV Try.el31 rfl rfl rfl rfl hVg33 ?_
      have hOld36 := hVg33
      intro w35 hVg33 hGw35
      change Own _ _ _ _ _ _ _ [.bool false, .slice none 0 0, .slice none 0 0] at hVg33
      have hB := ext_own hB hGw35 (fun g hg => (hOld36.bl_ge g hg).1)
      have han := han0.ext hB
      have had := had0.ext hB
      have hVg11 := hVg11.grown hGw35 (apart (by omega))
      refine WL.assign rfl rfl ?_
      refine WL.done ?_
      refine W.seq ?_
      refine W.region ?_
      refine WL.loadV (cs := [.bool na, .slice Aan man can, .slice Aad mad cad]) Try.el31 Try.agg31 rfl rfl hVg11.vcells rfl ?_
      refine WL.move rfl rfl ?_
      refine WL.call Try.func41 rfl Try.nm41 rfl rfl (rqPow_n_okerr han had hLan hLad qa hqa (by omega) (by omega) (by omega) hsg hq0 h1 h2) ?_
      rintro _ w37 ⟨rfl, hGw37⟩
      have hB := ext_trans hB hGw37
      have hVg11 := hVg11.ext hGw37
      have hVg33 := hVg33.ext hGw37
      refine WL.move rfl rfl ?_
      refine WL.extract rfl rfl rfl ?_
      refine WL.extract rfl rfl rfl ?_
      refine WL.alloc Try.el31 rfl ?_
      intro g38 w39 hg_g38 hVg38 hGw39
      change Own _ _ _ _ _ _ _ [.bool false, .slice none 0 0, .slice none 0 0] at hVg38
      have hlt_g11_g38 : g11 < g38 := by rw [hg_g38]; exact (hVg11.bl_ge _ rfl).2
      have hlt_g33_g38 : g33 < g38 := by rw [hg_g38]; exact (hVg33.bl_ge _ rfl).2
      have hVg38 := hVg38.low (b' := w.heap.size) hB.size
      have hB := ext_trans hB hGw39
      have hVg33 := hVg33.ext hGw39
      refine WL.storeV Try.el31 rfl rfl rfl rfl hVg38 ?_
      have hOld41 := hVg38
      intro w40 hVg38 hGw40
      change Own _ _ _ _ _ _ _ [.bool false, .slice none 0 0, .slice none 0 0] at hVg38
      have hB := ext_own hB hGw40 (fun g hg => (hOld41.bl_ge g hg).1)
      have hVg33 := hVg33.grown hGw40 (apart (by omega))
      refine WL.assign rfl rfl ?_
      refine WL.done ?_
      refine W.seq ?_
      refine W.region ?_
      refine WL.move rfl rfl ?_
      refine WL.move rfl rfl ?_
      refine WL.eql rfl rfl rfl (fun c42 => ?_) (fun c42 => ?_)
      · refine WL.move rfl rfl ?_
        refine WL.take rfl ?_
        refine WL.loadV (cs := [.bool false, .slice none 0 0, .slice none 0 0]) Try.el31 Try.agg31 rfl rfl hVg33.vcells rfl ?_
        refine WL.take rfl ?_
        refine WL.loadV (cs := [.bool false, .slice none 0 0, .slice none 0 0]) Try.el31 Try.agg31 rfl rfl hVg38.vcells rfl ?_
        refine WL.take rfl ?_
        refine WL.call Try.func18 rfl Try.nm18 rfl rfl (qsame_t Rd.nilU Rd.nilU Rd.nilU Rd.nilU ⟨rfl, rfl, rfl⟩) ?_
        rintro _ w43 ⟨rfl, hGw43⟩
        have hB := ext_trans hB hGw43
        refine WL.pick rfl rfl rfl ?_
        refine WL.assign rfl rfl ?_
        refine WL.done ?_
        refine W.ret ?_
        refine ⟨_, rfl, ?_⟩
        exact ⟨rfl, hB⟩
      · exfalso
        omega
  · have hlo := hlo_t rfl
    refine WL.move rfl rfl ?_
    refine WL.pass rfl rfl rfl ?_
    refine WL.pass rfl rfl rfl ?_
    refine WL.pass rfl rfl rfl ?_
    refine WL.pass rfl rfl rfl ?_
    refine WL.pass rfl rfl rfl ?_
    refine WL.pass rfl rfl rfl ?_
    refine WL.passU rfl rfl ?_
    refine WL.passU rfl rfl ?_
    refine WL.passU rfl rfl ?_
    refine WL.passU rfl rfl ?_
    refine WL.passU rfl rfl ?_
    refine WL.passU rfl rfl ?_
    refine WL.passU rfl rfl ?_
    refine WL.passU rfl rfl ?_
    refine WL.passU rfl rfl ?_
    refine WL.passU rfl rfl ?_
    refine WL.passU rfl rfl ?_
    refine WL.passU rfl rfl ?_
    refine WL.passU rfl rfl ?_
    refine WL.passU rfl rfl ?_
    refine WL.pass rfl rfl rfl ?_
    refine WL.pick rfl rfl rfl ?_
    refine WL.done ?_
    refine W.condT rfl ?_
    refine W.seq ?_
    refine W.region ?_
    refine WL.assign rfl rfl ?_
    refine WL.done ?_
    refine W.ret ?_
    refine ⟨_, rfl, ?_⟩
    exact ⟨rfl, hB⟩

set_option maxHeartbeats 4000000 in
theorem RationalPowers_n_errok {w : World} {Ban : Nat} {Aan : Option Addr} {man can : Nat} {xan : List Nat} (han : Rd Ban w 1 Aan man can (us xan)) {Bad : Nat} {Aad : Option Addr} {mad cad : Nat} {xad : List Nat} (had : Rd Bad w 1 Aad mad cad (us xad)) {na : Bool} (hLan : Lim xan) (hLad : Lim xad) (hza : man * 4 ≤ 140737488351232 ∧ mad * 4 ≤ 140737488351232) {X : Int} (hX : -9223372036854775808 ≤ X ∧ X ≤ 9223372036854775807) (q0 : Rat) (hq0e : val na (nv xan) (nv xad) = q0) (hsg : X < 0) (hq0 : q0 ≠ 0) (h1 : ¬ (q0.den) ^ X.natAbs < bigN) (h2 : (qnum q0) ^ X.natAbs < bigN) :
    Calls Try.prog 11 #[.agg #[.bool na, .slice Aan man can, .slice Aad mad cad], .int .i64 X] w fun e w2 => ∃ v, e = .returned v ∧ (fun v w2 => v = .bool true ∧ w.grownBy w2 none) v w2 := by
  have han := han.norm
  have han_l := han.ulen
  have han_x := han.max
  simp only [maxLen] at han_x
  have han_c := han.cap
  have had := had.norm
  have had_l := had.ulen
  have had_x := had.max
  simp only [maxLen] at had_x
  have had_c := had.cap
  have han0 := han
  have had0 := had
  obtain ⟨qa, hqa⟩ : ∃ q, val na (nv xan) (nv xad) = q := ⟨_, rfl⟩
  have eq0 : qa = q0 := by rw [← hqa, hq0e]
  subst eq0
  have hB := ext_refl w
  refine calls_of_W (vs := [.agg #[.bool na, .slice Aan man can, .slice Aad mad cad], .int .i64 X]) [4] Try.func11 rfl rfl rfl rfl ?_
  refine W.seq ?_
  refine W.region ?_
  refine WL.box Try.el31 rfl rfl rfl ?_
  intro g11 w12 hg_g11 hVg11 hGw12
  change Own _ _ _ _ _ _ _ [.bool na, .slice Aan man can, .slice Aad mad cad] at hVg11
  have hVg11 := hVg11.low (b' := w.heap.size) hB.size
  have hB := ext_trans hB hGw12
  have han := han0.ext hB
  have had := had0.ext hB
  refine WL.assign rfl rfl ?_
  refine WL.done ?_
  refine W.seq ?_
  refine W.seq ?_
  refine W.region ?_
  refine WL.loadV (cs := [.bool na, .slice Aan man can, .slice Aad mad cad]) Try.el31 Try.agg31 rfl rfl hVg11.vcells rfl ?_
  refine WL.lit (b := w12.heap.size) (cells := [.bool na, .slice Aan man can, .slice Aad mad cad]) Try.underlying44 Try.el31 (by decide) ⟨_, rfl, by kernel_rfl⟩ rfl (Nat.le_refl _) rfl ?_
  rintro A13 w14 - hO15 hGw14
  have hO15 := hO15.low (b' := w.heap.size) hB.size
  have hB := ext_trans hB hGw14
  have han := han0.ext hB
  have had := had0.ext hB
  have hVg11 := hVg11.ext hGw14
  have hN16 : RatsR w14.heap.size w14 [.bool na, .slice Aan man can, .slice Aad mad cad] [(na, xan, xad)] := (RatsR.cons han.norm had.norm (RatsR.nil _ _))
  refine WL.call Try.func17 rfl Try.nm17 rfl rfl (long_c hO15.rd hN16 rfl (RLen.cons (by first | omega | (simp; done) | (simp; omega)) (by first | omega | (simp; done) | (simp; omega)) (RLen.nil _))) ?_
  rintro _ w17 ⟨bhlo, rfl, hGw17, hlo_t, hlo_f⟩
  have hB := ext_trans hB hGw17
  have han := han0.ext hB
  have had := had0.ext hB
  have hVg11 := hVg11.ext hGw17
  rcases bhlo with _ | _
  · have hlo := hlo_f rfl
    have hla : xan.length + xad.length ≤ 6 := hlo 0 (by simp)
    refine WL.move rfl rfl ?_
    refine WL.take rfl ?_
    refine WL.move rfl rfl ?_
    refine WL.take rfl ?_
    refine WL.move rfl rfl ?_
    refine WL.take rfl ?_
    refine WL.neg (r := (negw X)) rfl (negw_wrap hX) rfl ?_
    refine WL.take rfl ?_
    refine WL.max2 (r := (mxw X)) rfl rfl rfl rfl ?_
    refine WL.take rfl ?_
    refine WL.leq rfl rfl rfl (fun c18 => ?_) (fun c18 => ?_)
    · refine WL.take rfl ?_
      refine WL.move rfl rfl ?_
      refine WL.take rfl ?_
      refine WL.fieldA (off := 1) Try.fla31_1 rfl rfl ?_
      refine WL.take rfl ?_
      refine WL.load Try.underlying23 rfl rfl (hVg11.vcells 1 _ rfl) rfl ?_
      refine WL.take rfl ?_
      refine WL.len Try.underlying23 rfl rfl ?_
      refine WL.take rfl ?_
      refine WL.fieldA (off := 2) Try.fla31_2 rfl rfl ?_
      refine WL.take rfl ?_
      refine WL.load Try.underlying23 rfl rfl (hVg11.vcells 2 _ rfl) rfl ?_
      refine WL.take rfl ?_
      refine WL.len Try.underlying23 rfl rfl ?_
      refine WL.take rfl ?_
      refine WL.add (r := ((man + mad : Nat) : Int)) rfl rfl (wi64 (by omega) (by omega) (by omega)) rfl ?_
      refine WL.take rfl ?_
      refine WL.mul (r := ((32 * (man + mad) : Nat) : Int)) rfl rfl (wi64 (by omega) (by omega) (by omega)) rfl ?_
      refine WL.take rfl ?_
      refine WL.move rfl rfl ?_
      refine WL.take rfl ?_
      refine WL.move rfl rfl ?_
      refine WL.take rfl ?_
      refine WL.neg (r := (negw X)) rfl (negw_wrap hX) rfl ?_
      refine WL.take rfl ?_
      refine WL.max2 (r := (mxw X)) rfl rfl rfl rfl ?_
      refine WL.take rfl ?_
      refine WL.mul (r := (IntKind.i64.wrap (((32 * (man + mad) : Nat) : Int) * mxw X))) rfl rfl rfl rfl ?_
      refine WL.take rfl ?_
      refine WL.gtr rfl rfl rfl (fun c19 => ?_) (fun c19 => ?_)
      · refine WL.take rfl ?_
        refine WL.pick rfl rfl rfl ?_
        refine WL.pick rfl rfl rfl ?_
        refine WL.done ?_
        refine W.condT rfl ?_
        refine W.seq ?_
        refine W.region ?_
        refine WL.assign rfl rfl ?_
        refine WL.done ?_
        refine W.ret ?_
        refine ⟨_, rfl, ?_⟩
        exact ⟨rfl, hB⟩
      · refine WL.take rfl ?_
        refine WL.pick rfl rfl rfl ?_
        refine WL.pick rfl rfl rfl ?_
        refine WL.done ?_
        refine W.condF rfl ?_
        refine W.skip ?_
        refine W.seq ?_
        refine W.region ?_
        refine WL.loadV (cs := [.bool na, .slice Aan man can, .slice Aad mad cad]) Try.el31 Try.agg31 rfl rfl hVg11.vcells rfl ?_
        refine WL.move rfl rfl ?_
        refine WL.call Try.func40 rfl Try.nm40 rfl rfl (qPow_n_errok han had hLan hLad qa hqa (by omega) (by omega) (by omega) hsg hq0 h1 h2) ?_
        rintro _ w20 ⟨rfl, hGw20⟩
        have hB := ext_trans hB hGw20
        have han := han0.ext hB
        have had := had0.ext hB
        have hVg11 := hVg11.ext hGw20
        refine WL.move rfl rfl ?_
        refine WL.extract rfl rfl rfl ?_
        refine WL.extract rfl rfl rfl ?_
        refine WL.alloc Try.el31 rfl ?_
        intro g21 w22 hg_g21 hVg21 hGw22
        change Own _ _ _ _ _ _ _ [.bool false, .slice none 0 0, .slice none 0 0] at hVg21
        have hlt_g11_g21 : g11 < g21 := by rw [hg_g21]; exact (hVg11.bl_ge _ rfl).2
        have hVg21 := hVg21.low (b' := w.heap.size) hB.size
        have hB := ext_trans hB hGw22
        have han := han0.ext hB
        have had := had0.ext hB
        have hVg11 := hVg11.ext hGw22
        refine WL.storeV Try.el31 rfl rfl rfl rfl hVg21 ?_
        have hOld24 := hVg21
        intro w23 hVg21 hGw23
        change Own _ _ _ _ _ _ _ [.bool false, .slice none 0 0, .slice none 0 0] at hVg21
        have hB := ext_own hB hGw23 (fun g hg => (hOld24.bl_ge g hg).1)
        have han := han0.ext hB
        have had := had0.ext hB
        have hVg11 := hVg11.grown hGw23 (apart (by omega))
        refine WL.assign rfl rfl ?_
        refine WL.done ?_
        refine W.seq ?_
        refine W.region ?_
        refine WL.loadV (cs := [.bool na, .slice Aan man can, .slice Aad mad cad]) Try.el31 Try.agg31 rfl rfl hVg11.vcells rfl ?_
        refine WL.move rfl rfl ?_
        refine WL.call Try.func41 rfl Try.nm41 rfl rfl (rqPow_n_errok han had hLan hLad qa hqa (by omega) (by omega) (by omega) hsg hq0 h1 h2) ?_
        rintro _ w25 ⟨rfl, hGw25⟩
        have hB := ext_trans hB hGw25
        have hVg11 := hVg11.ext hGw25
        have hVg21 := hVg21.ext hGw25
        refine WL.move rfl rfl ?_
        refine WL.extract rfl rfl rfl ?_
        refine WL.extract rfl rfl rfl ?_
        refine WL.alloc Try.el31 rfl ?_
        intro g26 w27 hg_g26 hVg26 hGw27
        change Own _ _ _ _ _ _ _ [.bool false, .slice none 0 0, .slice none 0 0] at hVg26
        have hlt_g11_g26 : g11 < g26 := by rw [hg_g26]; exact (hVg11.bl_ge _ rfl).2
        have hlt_g21_g26 : g21 < g26 := by rw [hg_g26]; exact (hVg21.bl_ge _ rfl).2
        have hVg26 := hVg26.low (b' := w.heap.size) hB.size
        have hB := ext_trans hB hGw27
        have hVg21 := hVg21.ext hGw27
        refine WL.storeV Try.el31 rfl rfl rfl rfl hVg26 ?_
        have hOld29 := hVg26
        intro w28 hVg26 hGw28
        change Own _ _ _ _ _ _ _ [.bool false, .slice none 0 0, .slice none 0 0] at hVg26
        have hB := ext_own hB hGw28 (fun g hg => (hOld29.bl_ge g hg).1)
        have hVg21 := hVg21.grown hGw28 (apart (by omega))
        refine WL.assign rfl rfl ?_
        refine WL.done ?_
        refine W.seq ?_
        refine W.region ?_
        refine WL.move rfl rfl ?_
        refine WL.move rfl rfl ?_
        refine WL.eql rfl rfl rfl (fun c30 => ?_) (fun c30 => ?_)
        · refine WL.move rfl rfl ?_
          refine WL.take rfl ?_
          refine WL.loadV (cs := [.bool false, .slice none 0 0, .slice none 0 0]) Try.el31 Try.agg31 rfl rfl hVg21.vcells rfl ?_
          refine WL.take rfl ?_
          refine WL.loadV (cs := [.bool false, .slice none 0 0, .slice none 0 0]) Try.el31 Try.agg31 rfl rfl hVg26.vcells rfl ?_
          refine WL.take rfl ?_
          refine WL.call Try.func18 rfl Try.nm18 rfl rfl (qsame_t Rd.nilU Rd.nilU Rd.nilU Rd.nilU ⟨rfl, rfl, rfl⟩) ?_
          rintro _ w31 ⟨rfl, hGw31⟩
          have hB := ext_trans hB hGw31
          refine WL.pick rfl rfl rfl ?_
          refine WL.assign rfl rfl ?_
          refine WL.done ?_
          refine W.ret ?_
          refine ⟨_, rfl, ?_⟩
          exact ⟨rfl, hB⟩
        · exfalso
          omega
    · refine WL.take rfl ?_
      refine WL.move rfl rfl ?_
      refine WL.pass rfl rfl rfl ?_
      refine WL.pass rfl rfl rfl ?_
      refine WL.pass rfl rfl rfl ?_
      refine WL.pass rfl rfl rfl ?_
      refine WL.pass rfl rfl rfl ?_
      refine WL.pass rfl rfl rfl ?_
      refine WL.pass rfl rfl rfl ?_
      refine WL.pass rfl rfl rfl ?_
      refine WL.pass rfl rfl rfl ?_
      refine WL.pass rfl rfl rfl ?_
      refine WL.pass rfl rfl rfl ?_
      refine WL.pass rfl rfl rfl ?_
      refine WL.pass rfl rfl rfl ?_
      refine WL.pass rfl rfl rfl ?_
      refine WL.take rfl ?_
      refine WL.pick rfl rfl rfl ?_
      refine WL.pick rfl rfl rfl ?_
      refine WL.done ?_
      refine W.condF rfl ?_
      refine W.skip ?_
      refine W.seq ?_
      refine W.region ?_
      refine WL.loadV (cs := [.bool na, .slice Aan man can, .slice Aad mad cad]) Try.el31 Try.agg31 rfl rfl hVg11.vcells rfl ?_
      refine WL.move rfl rfl ?_
      refine WL.call Try.func40 rfl Try.nm40 rfl rfl (qPow_n_errok han had hLan hLad qa hqa (by omega) (by omega) (by omega) hsg hq0 h1 h2) ?_
      rintro _ w32 ⟨rfl, hGw32⟩
      have hB := ext_trans hB hGw32
      have han := han0.ext hB
      have had := had0.ext hB
      have hVg11 := hVg11.ext hGw32
      refine WL.move rfl rfl ?_
      refine WL.extract rfl rfl rfl ?_
      refine WL.extract rfl rfl rfl ?_
      refine WL.alloc Try.el31 rfl ?_
      intro g33 w34 hg_g33 hVg33 hGw34
      change Own _ _ _ _ _ _ _ [.bool false, .slice none 0 0, .slice none 0 0] at hVg33
      have hlt_g11_g33 : g11 < g33 := by rw [hg_g33]; exact (hVg11.bl_ge _ rfl).2
      have hVg33 := hVg33.low (b' := w.heap.size) hB.size
      have hB := ext_trans hB hGw34
      have han := han0.ext hB
      have had := had0.ext hB
      have hVg11 := hVg11.ext hGw34
      refine WL.storeV Try.el31 rfl rfl rfl rfl hVg33 ?_
      have hOld36 := hVg33
      intro w35 hVg33 hGw35
      change Own _ _ _ _ _ _ _ [.bool false, .slice none 0 0, .slice none 0 0] at hVg33
      have hB := ext_own hB hGw35 (fun g hg => (hOld36.bl_ge g hg).1)
      have han := han0.ext hB
      have had := had0.ext hB
      have hVg11 := hVg11.grown hGw35 (apart (by omega))
      refine WL.assign rfl rfl ?_
      refine WL.done ?_
      refine W.seq ?_
      refine W.region ?_
      refine WL.loadV (cs := [.bool na, .slice Aan man can, .slice Aad mad cad]) Try.el31 Try.agg31 rfl rfl hVg11.vcells rfl ?_
      refine WL.move rfl rfl ?_
      refine WL.call Try.func41 rfl Try.nm41 rfl rfl (rqPow_n_errok han had hLan hLad qa hqa (by omega) (by omega) (by omega) hsg hq0 h1 h2) ?_
      rintro _ w37 ⟨rfl, hGw37⟩
      have hB := ext_trans hB hGw37
      have hVg11 := hVg11.ext hGw37
      have hVg33 := hVg33.ext hGw37
      refine WL.move rfl rfl ?_
      refine WL.extract rfl rfl rfl ?_
      refine WL.extract rfl rfl rfl ?_
      refine WL.alloc Try.el31 rfl ?_
      intro g38 w39 hg_g38 hVg38 hGw39
      change Own _ _ _ _ _ _ _ [.bool false, .slice none 0 0, .slice none 0 0] at hVg38
      have hlt_g11_g38 : g11 < g38 := by rw [hg_g38]; exact (hVg11.bl_ge _ rfl).2
      have hlt_g33_g38 : g33 < g38 := by rw [hg_g38]; exact (hVg33.bl_ge _ rfl).2
      have hVg38 := hVg38.low (b' := w.heap.size) hB.size
      have hB := ext_trans hB hGw39
      have hVg33 := hVg33.ext hGw39
      refine WL.storeV Try.el31 rfl rfl rfl rfl hVg38 ?_
      have hOld41 := hVg38
      intro w40 hVg38 hGw40
      change Own _ _ _ _ _ _ _ [.bool false, .slice none 0 0, .slice none 0 0] at hVg38
      have hB := ext_own hB hGw40 (fun g hg => (hOld41.bl_ge g hg).1)
      have hVg33 := hVg33.grown hGw40 (apart (by omega))
      refine WL.assign rfl rfl ?_
      refine WL.done ?_
      refine W.seq ?_
      refine W.region ?_
      refine WL.move rfl rfl ?_
      refine WL.move rfl rfl ?_
      refine WL.eql rfl rfl rfl (fun c42 => ?_) (fun c42 => ?_)
      · refine WL.move rfl rfl ?_
        refine WL.take rfl ?_
        refine WL.loadV (cs := [.bool false, .slice none 0 0, .slice none 0 0]) Try.el31 Try.agg31 rfl rfl hVg33.vcells rfl ?_
        refine WL.take rfl ?_
        refine WL.loadV (cs := [.bool false, .slice none 0 0, .slice none 0 0]) Try.el31 Try.agg31 rfl rfl hVg38.vcells rfl ?_
        refine WL.take rfl ?_
        refine WL.call Try.func18 rfl Try.nm18 rfl rfl (qsame_t Rd.nilU Rd.nilU Rd.nilU Rd.nilU ⟨rfl, rfl, rfl⟩) ?_
        rintro _ w43 ⟨rfl, hGw43⟩
        have hB := ext_trans hB hGw43
        refine WL.pick rfl rfl rfl ?_
        refine WL.assign rfl rfl ?_
        refine WL.done ?_
        refine W.ret ?_
        refine ⟨_, rfl, ?_⟩
        exact ⟨rfl, hB⟩
      · exfalso
        omega
  · have hlo := hlo_t rfl
    refine WL.move rfl rfl ?_
    refine WL.pass rfl rfl rfl ?_
    refine WL.pass rfl rfl rfl ?_
    refine WL.pass rfl rfl rfl ?_
    refine WL.pass rfl rfl rfl ?_
    refine WL.pass rfl rfl rfl ?_
    refine WL.pass rfl rfl rfl ?_
    refine WL.passU rfl rfl ?_
    refine WL.passU rfl rfl ?_
    refine WL.passU rfl rfl ?_
    refine WL.passU rfl rfl ?_
    refine WL.passU rfl rfl ?_
    refine WL.passU rfl rfl ?_
    refine WL.passU rfl rfl ?_
    refine WL.passU rfl rfl ?_
    refine WL.passU rfl rfl ?_
    refine WL.passU rfl rfl ?_
    refine WL.passU rfl rfl ?_
    refine WL.passU rfl rfl ?_
    refine WL.passU rfl rfl ?_
    refine WL.passU rfl rfl ?_
    refine WL.pass rfl rfl rfl ?_
    refine WL.pick rfl rfl rfl ?_
    refine WL.done ?_
    refine W.condT rfl ?_
    refine W.seq ?_
    refine W.region ?_
    refine WL.assign rfl rfl ?_
    refine WL.done ?_
    refine W.ret ?_
    refine ⟨_, rfl, ?_⟩
    exact ⟨rfl, hB⟩

set_option maxHeartbeats 4000000 in
theorem RationalPowers_n_errerr {w : World} {Ban : Nat} {Aan : Option Addr} {man can : Nat} {xan : List Nat} (han : Rd Ban w 1 Aan man can (us xan)) {Bad : Nat} {Aad : Option Addr} {mad cad : Nat} {xad : List Nat} (had : Rd Bad w 1 Aad mad cad (us xad)) {na : Bool} (hLan : Lim xan) (hLad : Lim xad) (hza : man * 4 ≤ 140737488351232 ∧ mad * 4 ≤ 140737488351232) {X : Int} (hX : -9223372036854775808 ≤ X ∧ X ≤ 9223372036854775807) (q0 : Rat) (hq0e : val na (nv xan) (nv xad) = q0) (hsg : X < 0) (hq0 : q0 ≠ 0) (h1 : ¬ (q0.den) ^ X.natAbs < bigN) (h2 : ¬ (qnum q0) ^ X.natAbs < bigN) :
    Calls Try.prog 11 #[.agg #[.bool na, .slice Aan man can, .slice Aad mad cad], .int .i64 X] w fun e w2 => ∃ v, e = .returned v ∧ (fun v w2 => v = .bool true ∧ w.grownBy w2 none) v w2 := by
  have han := han.norm
  have han_l := han.ulen
  have han_x := han.max
  simp only [maxLen] at han_x
  have han_c := han.cap
  have had := had.norm
  have had_l := had.ulen
  have had_x := had.max
  simp only [maxLen] at had_x
  have had_c := had.cap
  have han0 := han
  have had0 := had
  obtain ⟨qa, hqa⟩ : ∃ q, val na (nv xan) (nv xad) = q := ⟨_, rfl⟩
  have eq0 : qa = q0 := by rw [← hqa, hq0e]
  subst eq0
  have hB := ext_refl w
  refine calls_of_W (vs := [.agg #[.bool na, .slice Aan man can, .slice Aad mad cad], .int .i64 X]) [4] Try.func11 rfl rfl rfl rfl ?_
  refine W.seq ?_
  refine W.region ?_
  refine WL.box Try.el31 rfl rfl rfl ?_
  intro g11 w12 hg_g11 hVg11 hGw12
  change Own _ _ _ _ _ _ _ [.bool na, .slice Aan man can, .slice Aad mad cad] at hVg11
  have hVg11 := hVg11.low (b' := w.heap.size) hB.size
  have hB := ext_trans hB hGw12
  have han := han0.ext hB
  have had := had0.ext hB
  refine WL.assign rfl rfl ?_
  refine WL.done ?_
  refine W.seq ?_
  refine W.seq ?_
  refine W.region ?_
  refine WL.loadV (cs := [.bool na, .slice Aan man can, .slice Aad mad cad]) Try.el31 Try.agg31 rfl rfl hVg11.vcells rfl ?_
  refine WL.lit (b := w12.heap.size) (cells := [.bool na, .slice Aan man can, .slice Aad mad cad]) Try.underlying44 Try.el31 (by decide) ⟨_, rfl, by kernel_rfl⟩ rfl (Nat.le_refl _) rfl ?_
  rintro A13 w14 - hO15 hGw14
  have hO15 := hO15.low (b' := w.heap.size) hB.size
  have hB := ext_trans hB hGw14
  have han := han0.ext hB
  have had := had0.ext hB
  have hVg11 := hVg11.ext hGw14
  have hN16 : RatsR w14.heap.size w14 [.bool na, .slice Aan man can, .slice Aad mad cad] [(na, xan, xad)] := (RatsR.cons han.norm had.norm (RatsR.nil _ _))
  refine WL.call Try.func17 rfl Try.nm17 rfl rfl (long_c hO15.rd hN16 rfl (RLen.cons (by first | omega | (simp; done) | (simp; omega)) (by first | omega | (simp; done) | (simp; omega)) (RLen.nil _))) ?_
  rintro _ w17 ⟨bhlo, rfl, hGw17, hlo_t, hlo_f⟩
  have hB := ext_trans hB hGw17
  have han := han0.ext hB
  have had := had0.ext hB
  have hVg11 := hVg11.ext hGw17
  rcases bhlo with _ | _
  · have hlo := hlo_f rfl
    have hla : xan.length + xad.length ≤ 6 := hlo 0 (by simp)
    refine WL.move rfl rfl ?_
    refine WL.take rfl ?_
    refine WL.move rfl rfl ?_
    refine WL.take rfl ?_
    refine WL.move rfl rfl ?_
    refine WL.take rfl ?_
    refine WL.neg (r := (negw X)) rfl (negw_wrap hX) rfl ?_
    refine WL.take rfl ?_
    refine WL.max2 (r := (mxw X)) rfl rfl rfl rfl ?_
    refine WL.take rfl ?_
    refine WL.leq rfl rfl rfl (fun c18 => ?_) (fun c18 => ?_)
    · refine WL.take rfl ?_
      refine WL.move rfl rfl ?_
      refine WL.take rfl ?_
      refine WL.fieldA (off := 1) Try.fla31_1 rfl rfl ?_
      refine WL.take rfl ?_
      refine WL.load Try.underlying23 rfl rfl (hVg11.vcells 1 _ rfl) rfl ?_
      refine WL.take rfl ?_
      refine WL.len Try.underlying23 rfl rfl ?_
      refine WL.take rfl ?_
      refine WL.fieldA (off := 2) Try.fla31_2 rfl rfl ?_
      refine WL.take rfl ?_
      refine WL.load Try.underlying23 rfl rfl (hVg11.vcells 2 _ rfl) rfl ?_
      refine WL.take rfl ?_
      refine WL.len Try.underlying23 rfl rfl ?_
      refine WL.take rfl ?_
      refine WL.add (r := ((man + mad : Nat) : Int)) rfl rfl (wi64 (by omega) (by omega) (by omega)) rfl ?_
      refine WL.take rfl ?_
      refine WL.mul (r := ((32 * (man + mad) : Nat) : Int)) rfl rfl (wi64 (by omega) (by omega) (by omega)) rfl ?_
      refine WL.take rfl ?_
      refine WL.move rfl rfl ?_
      refine WL.take rfl ?_
      refine WL.move rfl rfl ?_
      refine WL.take rfl ?_
      refine WL.neg (r := (negw X)) rfl (negw_wrap hX) rfl ?_
      refine WL.take rfl ?_
      refine WL.max2 (r := (mxw X)) rfl rfl rfl rfl ?_
      refine WL.take rfl ?_
      refine WL.mul (r := (IntKind.i64.wrap (((32 * (man + mad) : Nat) : Int) * mxw X))) rfl rfl rfl rfl ?_
      refine WL.take rfl ?_
      refine WL.gtr rfl rfl rfl (fun c19 => ?_) (fun c19 => ?_)
      · refine WL.take rfl ?_
        refine WL.pick rfl rfl rfl ?_
        refine WL.pick rfl rfl rfl ?_
        refine WL.done ?_
        refine W.condT rfl ?_
        refine W.seq ?_
        refine W.region ?_
        refine WL.assign rfl rfl ?_
        refine WL.done ?_
        refine W.ret ?_
        refine ⟨_, rfl, ?_⟩
        exact ⟨rfl, hB⟩
      · refine WL.take rfl ?_
        refine WL.pick rfl rfl rfl ?_
        refine WL.pick rfl rfl rfl ?_
        refine WL.done ?_
        refine W.condF rfl ?_
        refine W.skip ?_
        refine W.seq ?_
        refine W.region ?_
        refine WL.loadV (cs := [.bool na, .slice Aan man can, .slice Aad mad cad]) Try.el31 Try.agg31 rfl rfl hVg11.vcells rfl ?_
        refine WL.move rfl rfl ?_
        refine WL.call Try.func40 rfl Try.nm40 rfl rfl (qPow_n_errerr han had hLan hLad qa hqa (by omega) (by omega) (by omega) hsg hq0 h1 h2) ?_
        rintro _ w20 ⟨rfl, hGw20⟩
        have hB := ext_trans hB hGw20
        have han := han0.ext hB
        have had := had0.ext hB
        have hVg11 := hVg11.ext hGw20
        refine WL.move rfl rfl ?_
        refine WL.extract rfl rfl rfl ?_
        refine WL.extract rfl rfl rfl ?_
        refine WL.alloc Try.el31 rfl ?_
        intro g21 w22 hg_g21 hVg21 hGw22
        change Own _ _ _ _ _ _ _ [.bool false, .slice none 0 0, .slice none 0 0] at hVg21
        have hlt_g11_g21 : g11 < g21 := by rw [hg_g21]; exact (hVg11.bl_ge _ rfl).2
        have hVg21 := hVg21.low (b' := w.heap.size) hB.size
        have hB := ext_trans hB hGw22
        have han := han0.ext hB
        have had := had0.ext hB
        have hVg11 := hVg11.ext hGw22
        refine WL.storeV Try.el31 rfl rfl rfl rfl hVg21 ?_
        have hOld24 := hVg21
        intro w23 hVg21 hGw23
        change Own _ _ _ _ _ _ _ [.bool false, .slice none 0 0, .slice none 0 0] at hVg21
        have hB := ext_own hB hGw23 (fun g hg => (hOld24.bl_ge g hg).1)
        have han := han0.ext hB
        have had := had0.ext hB
        have hVg11 := hVg11.grown hGw23 (apart (by omega))
        refine WL.assign rfl rfl ?_
        refine WL.done ?_
        refine W.seq ?_
        refine W.region ?_
        refine WL.loadV (cs := [.bool na, .slice Aan man can, .slice Aad mad cad]) Try.el31 Try.agg31 rfl rfl hVg11.vcells rfl ?_
        refine WL.move rfl rfl ?_
        refine WL.call Try.func41 rfl Try.nm41 rfl rfl (rqPow_n_errerr han had hLan hLad qa hqa (by omega) (by omega) (by omega) hsg hq0 h1 h2) ?_
        rintro _ w25 ⟨rfl, hGw25⟩
        have hB := ext_trans hB hGw25
        have hVg11 := hVg11.ext hGw25
        have hVg21 := hVg21.ext hGw25
        refine WL.move rfl rfl ?_
        refine WL.extract rfl rfl rfl ?_
        refine WL.extract rfl rfl rfl ?_
        refine WL.alloc Try.el31 rfl ?_
        intro g26 w27 hg_g26 hVg26 hGw27
        change Own _ _ _ _ _ _ _ [.bool false, .slice none 0 0, .slice none 0 0] at hVg26
        have hlt_g11_g26 : g11 < g26 := by rw [hg_g26]; exact (hVg11.bl_ge _ rfl).2
        have hlt_g21_g26 : g21 < g26 := by rw [hg_g26]; exact (hVg21.bl_ge _ rfl).2
        have hVg26 := hVg26.low (b' := w.heap.size) hB.size
        have hB := ext_trans hB hGw27
        have hVg21 := hVg21.ext hGw27
        refine WL.storeV Try.el31 rfl rfl rfl rfl hVg26 ?_
        have hOld29 := hVg26
        intro w28 hVg26 hGw28
        change Own _ _ _ _ _ _ _ [.bool false, .slice none 0 0, .slice none 0 0] at hVg26
        have hB := ext_own hB hGw28 (fun g hg => (hOld29.bl_ge g hg).1)
        have hVg21 := hVg21.grown hGw28 (apart (by omega))
        refine WL.assign rfl rfl ?_
        refine WL.done ?_
        refine W.seq ?_
        refine W.region ?_
        refine WL.move rfl rfl ?_
        refine WL.move rfl rfl ?_
        refine WL.eql rfl rfl rfl (fun c30 => ?_) (fun c30 => ?_)
        · refine WL.move rfl rfl ?_
          refine WL.take rfl ?_
          refine WL.loadV (cs := [.bool false, .slice none 0 0, .slice none 0 0]) Try.el31 Try.agg31 rfl rfl hVg21.vcells rfl ?_
          refine WL.take rfl ?_
          refine WL.loadV (cs := [.bool false, .slice none 0 0, .slice none 0 0]) Try.el31 Try.agg31 rfl rfl hVg26.vcells rfl ?_
          refine WL.take rfl ?_
          refine WL.call Try.func18 rfl Try.nm18 rfl rfl (qsame_t Rd.nilU Rd.nilU Rd.nilU Rd.nilU ⟨rfl, rfl, rfl⟩) ?_
          rintro _ w31 ⟨rfl, hGw31⟩
          have hB := ext_trans hB hGw31
          refine WL.pick rfl rfl rfl ?_
          refine WL.assign rfl rfl ?_
          refine WL.done ?_
          refine W.ret ?_
          refine ⟨_, rfl, ?_⟩
          exact ⟨rfl, hB⟩
        · exfalso
          omega
    · refine WL.take rfl ?_
      refine WL.move rfl rfl ?_
      refine WL.pass rfl rfl rfl ?_
      refine WL.pass rfl rfl rfl ?_
      refine WL.pass rfl rfl rfl ?_
      refine WL.pass rfl rfl rfl ?_
      refine WL.pass rfl rfl rfl ?_
      refine WL.pass rfl rfl rfl ?_
      refine WL.pass rfl rfl rfl ?_
      refine WL.pass rfl rfl rfl ?_
      refine WL.pass rfl rfl rfl ?_
      refine WL.pass rfl rfl rfl ?_
      refine WL.pass rfl rfl rfl ?_
      refine WL.pass rfl rfl rfl ?_
      refine WL.pass rfl rfl rfl ?_
      refine WL.pass rfl rfl rfl ?_
      refine WL.take rfl ?_
      refine WL.pick rfl rfl rfl ?_
      refine WL.pick rfl rfl rfl ?_
      refine WL.done ?_
      refine W.condF rfl ?_
      refine W.skip ?_
      refine W.seq ?_
      refine W.region ?_
      refine WL.loadV (cs := [.bool na, .slice Aan man can, .slice Aad mad cad]) Try.el31 Try.agg31 rfl rfl hVg11.vcells rfl ?_
      refine WL.move rfl rfl ?_
      refine WL.call Try.func40 rfl Try.nm40 rfl rfl (qPow_n_errerr han had hLan hLad qa hqa (by omega) (by omega) (by omega) hsg hq0 h1 h2) ?_
      rintro _ w32 ⟨rfl, hGw32⟩
      have hB := ext_trans hB hGw32
      have han := han0.ext hB
      have had := had0.ext hB
      have hVg11 := hVg11.ext hGw32
      refine WL.move rfl rfl ?_
      refine WL.extract rfl rfl rfl ?_
      refine WL.extract rfl rfl rfl ?_
      refine WL.alloc Try.el31 rfl ?_
      intro g33 w34 hg_g33 hVg33 hGw34
      change Own _ _ _ _ _ _ _ [.bool false, .slice none 0 0, .slice none 0 0] at hVg33
      have hlt_g11_g33 : g11 < g33 := by rw [hg_g33]; exact (hVg11.bl_ge _ rfl).2
      have hVg33 := hVg33.low (b' := w.heap.size) hB.size
      have hB := ext_trans hB hGw34
      have han := han0.ext hB
      have had := had0.ext hB
      have hVg11 := hVg11.ext hGw34
      refine WL.storeV Try.el31 rfl rfl rfl rfl hVg33 ?_
      have hOld36 := hVg33
      intro w35 hVg33 hGw35
      change Own _ _ _ _ _ _ _ [.bool false, .slice none 0 0, .slice none 0 0] at hVg33
      have hB := ext_own hB hGw35 (fun g hg => (hOld36.bl_ge g hg).1)
      have han := han0.ext hB
      have had := had0.ext hB
      have hVg11 := hVg11.grown hGw35 (apart (by omega))
      refine WL.assign rfl rfl ?_
      refine WL.done ?_
      refine W.seq ?_
      refine W.region ?_
      refine WL.loadV (cs := [.bool na, .slice Aan man can, .slice Aad mad cad]) Try.el31 Try.agg31 rfl rfl hVg11.vcells rfl ?_
      refine WL.move rfl rfl ?_
      refine WL.call Try.func41 rfl Try.nm41 rfl rfl (rqPow_n_errerr han had hLan hLad qa hqa (by omega) (by omega) (by omega) hsg hq0 h1 h2) ?_
      rintro _ w37 ⟨rfl, hGw37⟩
      have hB := ext_trans hB hGw37
      have hVg11 := hVg11.ext hGw37
      have hVg33 := hVg33.ext hGw37
      refine WL.move rfl rfl ?_
      refine WL.extract rfl rfl rfl ?_
      refine WL.extract rfl rfl rfl ?_
      refine WL.alloc Try.el31 rfl ?_
      intro g38 w39 hg_g38 hVg38 hGw39
      change Own _ _ _ _ _ _ _ [.bool false, .slice none 0 0, .slice none 0 0] at hVg38
      have hlt_g11_g38 : g11 < g38 := by rw [hg_g38]; exact (hVg11.bl_ge _ rfl).2
      have hlt_g33_g38 : g33 < g38 := by rw [hg_g38]; exact (hVg33.bl_ge _ rfl).2
      have hVg38 := hVg38.low (b' := w.heap.size) hB.size
      have hB := ext_trans hB hGw39
      have hVg33 := hVg33.ext hGw39
      refine WL.storeV Try.el31 rfl rfl rfl rfl hVg38 ?_
      have hOld41 := hVg38
      intro w40 hVg38 hGw40
      change Own _ _ _ _ _ _ _ [.bool false, .slice none 0 0, .slice none 0 0] at hVg38
      have hB := ext_own hB hGw40 (fun g hg => (hOld41.bl_ge g hg).1)
      have hVg33 := hVg33.grown hGw40 (apart (by omega))
      refine WL.assign rfl rfl ?_
      refine WL.done ?_
      refine W.seq ?_
      refine W.region ?_
      refine WL.move rfl rfl ?_
      refine WL.move rfl rfl ?_
      refine WL.eql rfl rfl rfl (fun c42 => ?_) (fun c42 => ?_)
      · refine WL.move rfl rfl ?_
        refine WL.take rfl ?_
        refine WL.loadV (cs := [.bool false, .slice none 0 0, .slice none 0 0]) Try.el31 Try.agg31 rfl rfl hVg33.vcells rfl ?_
        refine WL.take rfl ?_
        refine WL.loadV (cs := [.bool false, .slice none 0 0, .slice none 0 0]) Try.el31 Try.agg31 rfl rfl hVg38.vcells rfl ?_
        refine WL.take rfl ?_
        refine WL.call Try.func18 rfl Try.nm18 rfl rfl (qsame_t Rd.nilU Rd.nilU Rd.nilU Rd.nilU ⟨rfl, rfl, rfl⟩) ?_
        rintro _ w43 ⟨rfl, hGw43⟩
        have hB := ext_trans hB hGw43
        refine WL.pick rfl rfl rfl ?_
        refine WL.assign rfl rfl ?_
        refine WL.done ?_
        refine W.ret ?_
        refine ⟨_, rfl, ?_⟩
        exact ⟨rfl, hB⟩
      · exfalso
        omega
  · have hlo := hlo_t rfl
    refine WL.move rfl rfl ?_
    refine WL.pass rfl rfl rfl ?_
    refine WL.pass rfl rfl rfl ?_
    refine WL.pass rfl rfl rfl ?_
    refine WL.pass rfl rfl rfl ?_
    refine WL.pass rfl rfl rfl ?_
    refine WL.pass rfl rfl rfl ?_
    refine WL.passU rfl rfl ?_
    refine WL.passU rfl rfl ?_
    refine WL.passU rfl rfl ?_
    refine WL.passU rfl rfl ?_
    refine WL.passU rfl rfl ?_
    refine WL.passU rfl rfl ?_
    refine WL.passU rfl rfl ?_
    refine WL.passU rfl rfl ?_
    refine WL.passU rfl rfl ?_
    refine WL.passU rfl rfl ?_
    refine WL.passU rfl rfl ?_
    refine WL.passU rfl rfl ?_
    refine WL.passU rfl rfl ?_
    refine WL.passU rfl rfl ?_
    refine WL.pass rfl rfl rfl ?_
    refine WL.pick rfl rfl rfl ?_
    refine WL.done ?_
    refine W.condT rfl ?_
    refine W.seq ?_
    refine W.region ?_
    refine WL.assign rfl rfl ?_
    refine WL.done ?_
    refine W.ret ?_
    refine ⟨_, rfl, ?_⟩
    exact ⟨rfl, hB⟩

theorem RationalPowers_c {w : World} {Ban : Nat} {Aan : Option Addr} {man can : Nat} {xan : List Nat} (han : Rd Ban w 1 Aan man can (us xan)) {Bad : Nat} {Aad : Option Addr} {mad cad : Nat} {xad : List Nat} (had : Rd Bad w 1 Aad mad cad (us xad)) {na : Bool} (hLan : Lim xan) (hLad : Lim xad) (hza : man * 4 ≤ 140737488351232 ∧ mad * 4 ≤ 140737488351232) {X : Int} (hX : -9223372036854775808 ≤ X ∧ X ≤ 9223372036854775807) : Calls Try.prog 11 #[.agg #[.bool na, .slice Aan man can, .slice Aad mad cad], .int .i64 X] w fun e w2 => ∃ v, e = .returned v ∧ (fun v w2 => v = .bool true ∧ w.grownBy w2 none) v w2 := by
  rcases Int.lt_or_le X 0 with hs | hs
  · by_cases hq : val na (nv xan) (nv xad) = 0
    · exact RationalPowers_z han had hLan hLad hza hX _ rfl hs hq
    · by_cases h1 : (val na (nv xan) (nv xad)).den ^ X.natAbs < bigN
      · by_cases h2 : qnum (val na (nv xan) (nv xad)) ^ X.natAbs < bigN
        · exact RationalPowers_n_okok han had hLan hLad hza hX _ rfl hs hq h1 h2
        · exact RationalPowers_n_okerr han had hLan hLad hza hX _ rfl hs hq h1 h2
      · by_cases h2 : qnum (val na (nv xan) (nv xad)) ^ X.natAbs < bigN
        · exact RationalPowers_n_errok han had hLan hLad hza hX _ rfl hs hq h1 h2
        · exact RationalPowers_n_errerr han had hLan hLad hza hX _ rfl hs hq h1 h2
  · by_cases h1 : qnum (val na (nv xan) (nv xad)) ^ X.natAbs < bigN
    · by_cases h2 : (val na (nv xan) (nv xad)).den ^ X.natAbs < bigN
      · exact RationalPowers_p_okok han had hLan hLad hza hX _ rfl hs h1 h2
      · exact RationalPowers_p_okerr han had hLan hLad hza hX _ rfl hs h1 h2
    · by_cases h2 : (val na (nv xan) (nv xad)).den ^ X.natAbs < bigN
      · exact RationalPowers_p_errok han had hLan hLad hza hX _ rfl hs h1 h2
      · exact RationalPowers_p_errerr han had hLan hLad hza hX _ rfl hs h1 h2

theorem qPow_ok {w : World} {Ban : Nat} {Aan : Option Addr} {man can : Nat} {xan : List Nat} (han : Rd Ban w 1 Aan man can (us xan)) {Bad : Nat} {Aad : Option Addr} {mad cad : Nat} {xad : List Nat} (had : Rd Bad w 1 Aad mad cad (us xad)) {na : Bool} (hLan : Lim xan) (hLad : Lim xad) (qa : Rat) (hqa : val na (nv xan) (nv xad) = qa) (hsa : man ≤ 4194304 ∧ mad ≤ 4194304) {X : Int} (hX : -9223372036854775808 ≤ X ∧ X ≤ 9223372036854775807) (hsm : man ≤ 1000 ∧ mad ≤ 1000) (hq0 : qa ≠ 0) (h1 : (qnum qa) ^ X.natAbs < bigN) (h2 : (qa.den) ^ X.natAbs < bigN) : Calls Try.prog 40 #[.agg #[.bool na, .slice Aan man can, .slice Aad mad cad], .int .i64 X] w fun e w2 => ∃ v, e = .returned v ∧ (fun v w2 => ∃ A2 m2 c2 A3 m3 c3, v = .tuple #[.agg #[.bool (qneg (qa ^ X)), .slice A2 m2 c2, .slice A3 m3 c3], .int .i64 0] ∧ w.grownBy w2 none ∧ Own w.heap.size w2 43 1 A2 m2 c2 (us (digs (qnum (qa ^ X)))) ∧ Own w.heap.size w2 43 1 A3 m3 c3 (us (digs (Rat.den (qa ^ X)))) ∧ m2 ≤ 4096 ∧ m3 ≤ 4096) v w2 := by
  rcases Int.lt_or_le X 0 with hs | hs
  · exact qPow_n_okok han had hLan hLad qa hqa hsa hX hsm hs hq0 h2 h1
  · exact qPow_p_okok han had hLan hLad qa hqa hsa hX hsm hs h1 h2

set_option maxHeartbeats 4000000 in
theorem RationalExponents_z {w : World} {Ban : Nat} {Aan : Option Addr} {man can : Nat} {xan : List Nat} (han : Rd Ban w 1 Aan man can (us xan)) {Bad : Nat} {Aad : Option Addr} {mad cad : Nat} {xad : List Nat} (had : Rd Bad w 1 Aad mad cad (us xad)) {na : Bool} (hLan : Lim xan) (hLad : Lim xad) (hza : man * 4 ≤ 140737488351232 ∧ mad * 4 ≤ 140737488351232) {X : Int} (hX : -128 ≤ X ∧ X ≤ 127) {Y : Int} (hY : -128 ≤ Y ∧ Y ≤ 127) (q0 : Rat) (hq0e : val na (nv xan) (nv xad) = q0) (hq0 : q0 = 0) :
    Calls Try.prog 12 #[.agg #[.bool na, .slice Aan man can, .slice Aad mad cad], .int .i8 X, .int .i8 Y] w fun e w2 => ∃ v, e = .returned v ∧ (fun v w2 => v = .bool true ∧ w.grownBy w2 none) v w2 := by
  have han := han.norm
  have han_l := han.ulen
  have han_x := han.max
  simp only [maxLen] at han_x
  have han_c := han.cap
  have had := had.norm
  have had_l := had.ulen
  have had_x := had.max
  simp only [maxLen] at had_x
  have had_c := had.cap
  have han0 := han
  have had0 := had
  obtain ⟨qa, hqa⟩ : ∃ q, val na (nv xan) (nv xad) = q := ⟨_, rfl⟩
  have eq0 : qa = q0 := by rw [← hqa, hq0e]
  subst eq0
  have hB := ext_refl w
  refine calls_of_W (vs := [.agg #[.bool na, .slice Aan man can, .slice Aad mad cad], .int .i8 X, .int .i8 Y]) [6] Try.func12 rfl rfl rfl rfl ?_
  refine W.seq ?_
  refine W.region ?_
  refine WL.box Try.el31 rfl rfl rfl ?_
  intro g11 w12 hg_g11 hVg11 hGw12
  change Own _ _ _ _ _ _ _ [.bool na, .slice Aan man can, .slice Aad mad cad] at hVg11
  have hVg11 := hVg11.low (b' := w.heap.size) hB.size
  have hB := ext_trans hB hGw12
  have han := han0.ext hB
  have had := had0.ext hB
  refine WL.assign rfl rfl ?_
  refine WL.done ?_
  refine W.seq ?_
  refine W.seq ?_
  refine W.region ?_
  refine WL.loadV (cs := [.bool na, .slice Aan man can, .slice Aad mad cad]) Try.el31 Try.agg31 rfl rfl hVg11.vcells rfl ?_
  refine WL.lit (b := w12.heap.size) (cells := [.bool na, .slice Aan man can, .slice Aad mad cad]) Try.underlying44 Try.el31 (by decide) ⟨_, rfl, by kernel_rfl⟩ rfl (Nat.le_refl _) rfl ?_
  rintro A13 w14 - hO15 hGw14
  have hO15 := hO15.low (b' := w.heap.size) hB.size
  have hB := ext_trans hB hGw14
  have han := han0.ext hB
  have had := had0.ext hB
  have hVg11 := hVg11.ext hGw14
  have hN16 : RatsR w14.heap.size w14 [.bool na, .slice Aan man can, .slice Aad mad cad] [(na, xan, xad)] := (RatsR.cons han.norm had.norm (RatsR.nil _ _))
  refine WL.call Try.func17 rfl Try.nm17 rfl rfl (long_c hO15.rd hN16 rfl (RLen.cons (by first | omega | (simp; done) | (simp; omega)) (by first | omega | (simp; done) | (simp; omega)) (RLen.nil _))) ?_
  rintro _ w17 ⟨bhlo, rfl, hGw17, hlo_t, hlo_f⟩
  have hB := ext_trans hB hGw17
  have han := han0.ext hB
  have had := had0.ext hB
  have hVg11 := hVg11.ext hGw17
  rcases bhlo with _ | _
  · have hlo := hlo_f rfl
    have hla : xan.length + xad.length ≤ 2 := hlo 0 (by simp)
    refine WL.done ?_
    refine W.condF rfl ?_
    refine W.skip ?_
    refine W.seq ?_
    refine W.seq ?_
    refine W.region ?_
    refine WL.loadV (cs := [.bool na, .slice Aan man can, .slice Aad mad cad]) Try.el31 Try.agg31 rfl rfl hVg11.vcells rfl ?_
    refine WL.call Try.func23 rfl Try.nm23 rfl rfl (qSign_c han had hLan hLad qa hqa (by omega)) ?_
    rintro _ w18 ⟨rfl, hGw18⟩
    have hB := ext_trans hB hGw18
    refine WL.eql rfl rfl rfl (fun hsg => ?_) (fun hsg => ?_)
    · refine WL.done ?_
      refine W.condT rfl ?_
      refine W.seq ?_
      refine W.region ?_
      refine WL.lit1 (b := w18.heap.size) Try.underlying23 Try.el43 rfl rfl rfl rfl (by intro v hv; simp only [List.mem_cons, List.not_mem_nil, or_false] at hv; rcases hv with rfl <;> rfl) (Nat.le_refl _) rfl ?_
      rintro A20 w21 - hO22 hGw21
      have hO22 := hO22.low (b' := w.heap.size) hB.size
      have hB := ext_trans hB hGw21
      change Own _ _ _ _ _ _ _ (us [2]) at hO22
      refine WL.lit1 (b := w21.heap.size) Try.underlying23 Try.el43 rfl rfl rfl rfl (by intro v hv; simp only [List.mem_cons, List.not_mem_nil, or_false] at hv; rcases hv with rfl <;> rfl) (Nat.le_refl _) rfl ?_
      rintro A23 w24 - hO25 hGw24
      have hO25 := hO25.low (b' := w.heap.size) hB.size
      have hB := ext_trans hB hGw24
      have hO22 := hO22.ext hGw24
      change Own _ _ _ _ _ _ _ (us [3]) at hO25
      refine WL.build (cells := #[.bool false, .slice A20 1 1, .slice A23 1 1]) Try.bld31 rfl rfl rfl ?_
      refine WL.call Try.func23 rfl Try.nm23 rfl rfl (qSign_c hO22.rd hO25.rd (by intro x hx; simp only [List.mem_cons, List.not_mem_nil, or_false] at hx; omega) (by intro x hx; simp only [List.mem_cons, List.not_mem_nil, or_false] at hx; omega) (val false (nv [2]) (nv [3])) rfl (by omega)) ?_
      rintro _ w26 ⟨rfl, hGw26⟩
      have hB := ext_trans hB hGw26
      refine WL.eql rfl rfl rfl (fun h23 => ?_) (fun h23 => ?_)
      · refine WL.assign rfl rfl ?_
        refine WL.done ?_
        refine W.ret ?_
        refine ⟨_, rfl, ?_⟩
        exact ⟨rfl, hB⟩
      · exfalso
        exact h23 two_third
    · exfalso
      exact hsg (sg_zero.2 hq0)
  · have hlo := hlo_t rfl
    refine WL.done ?_
    refine W.condT rfl ?_
    refine W.seq ?_
    refine W.region ?_
    refine WL.assign rfl rfl ?_
    refine WL.done ?_
    refine W.ret ?_
    refine ⟨_, rfl, ?_⟩
    exact ⟨rfl, hB⟩

set_option maxHeartbeats 4000000 in
theorem RationalExponents_ok {w : World} {Ban : Nat} {Aan : Option Addr} {man can : Nat} {xan : List Nat} (han : Rd Ban w 1 Aan man can (us xan)) {Bad : Nat} {Aad : Option Addr} {mad cad : Nat} {xad : List Nat} (had : Rd Bad w 1 Aad mad cad (us xad)) {na : Bool} (hLan : Lim xan) (hLad : Lim xad) (hza : man * 4 ≤ 140737488351232 ∧ mad * 4 ≤ 140737488351232) {X : Int} (hX : -128 ≤ X ∧ X ≤ 127) {Y : Int} (hY : -128 ≤ Y ∧ Y ≤ 127) (q0 : Rat) (hq0e : val na (nv xan) (nv xad) = q0) (hq0 : q0 ≠ 0) :
    Calls Try.prog 12 #[.agg #[.bool na, .slice Aan man can, .slice Aad mad cad], .int .i8 X, .int .i8 Y] w fun e w2 => ∃ v, e = .returned v ∧ (fun v w2 => v = .bool true ∧ w.grownBy w2 none) v w2 := by
  have han := han.norm
  have han_l := han.ulen
  have han_x := han.max
  simp only [maxLen] at han_x
  have han_c := han.cap
  have had := had.norm
  have had_l := had.ulen
  have had_x := had.max
  simp only [maxLen] at had_x
  have had_c := had.cap
  have han0 := han
  have had0 := had
  obtain ⟨qa, hqa⟩ : ∃ q, val na (nv xan) (nv xad) = q := ⟨_, rfl⟩
  have eq0 : qa = q0 := by rw [← hqa, hq0e]
  subst eq0
  have hB := ext_refl w
  refine calls_of_W (vs := [.agg #[.bool na, .slice Aan man can, .slice Aad mad cad], .int .i8 X, .int .i8 Y]) [6] Try.func12 rfl rfl rfl rfl ?_
  refine W.seq ?_
  refine W.region ?_
  refine WL.box Try.el31 rfl rfl rfl ?_
  intro g11 w12 hg_g11 hVg11 hGw12
  change Own _ _ _ _ _ _ _ [.bool na, .slice Aan man can, .slice Aad mad cad] at hVg11
  have hVg11 := hVg11.low (b' := w.heap.size) hB.size
  have hB := ext_trans hB hGw12
  have han := han0.ext hB
  have had := had0.ext hB
  refine WL.assign rfl rfl ?_
  refine WL.done ?_
  refine W.seq ?_
  refine W.seq ?_
  refine W.region ?_
  refine WL.loadV (cs := [.bool na, .slice Aan man can, .slice Aad mad cad]) Try.el31 Try.agg31 rfl rfl hVg11.vcells rfl ?_
  refine WL.lit (b := w12.heap.size) (cells := [.bool na, .slice Aan man can, .slice Aad mad cad]) Try.underlying44 Try.el31 (by decide) ⟨_, rfl, by kernel_rfl⟩ rfl (Nat.le_refl _) rfl ?_
  rintro A13 w14 - hO15 hGw14
  have hO15 := hO15.low (b' := w.heap.size) hB.size
  have hB := ext_trans hB hGw14
  have han := han0.ext hB
  have had := had0.ext hB
  have hVg11 := hVg11.ext hGw14
  have hN16 : RatsR w14.heap.size w14 [.bool na, .slice Aan man can, .slice Aad mad cad] [(na, xan, xad)] := (RatsR.cons han.norm had.norm (RatsR.nil _ _))
  refine WL.call Try.func17 rfl Try.nm17 rfl rfl (long_c hO15.rd hN16 rfl (RLen.cons (by first | omega | (simp; done) | (simp; omega)) (by first | omega | (simp; done) | (simp; omega)) (RLen.nil _))) ?_
  rintro _ w17 ⟨bhlo, rfl, hGw17, hlo_t, hlo_f⟩
  have hB := ext_trans hB hGw17
  have han := han0.ext hB
  have had := had0.ext hB
  have hVg11 := hVg11.ext hGw17
  rcases bhlo with _ | _
  · have hlo := hlo_f rfl
    have hla : xan.length + xad.length ≤ 2 := hlo 0 (by simp)
    refine WL.done ?_
    refine W.condF rfl ?_
    refine W.skip ?_
    refine W.seq ?_
    refine W.seq ?_
    refine W.region ?_
    refine WL.loadV (cs := [.bool na, .slice Aan man can, .slice Aad mad cad]) Try.el31 Try.agg31 rfl rfl hVg11.vcells rfl ?_
    refine WL.call Try.func23 rfl Try.nm23 rfl rfl (qSign_c han had hLan hLad qa hqa (by omega)) ?_
    rintro _ w18 ⟨rfl, hGw18⟩
    have hB := ext_trans hB hGw18
    have han := han0.ext hB
    have had := had0.ext hB
    have hVg11 := hVg11.ext hGw18
    refine WL.eql rfl rfl rfl (fun hsg => ?_) (fun hsg => ?_)
    · exfalso
      exact hq0 (sg_zero.1 hsg)
    · refine WL.done ?_
      refine W.condF rfl ?_
      refine W.skip ?_
      refine W.seq ?_
      refine W.region ?_
      refine WL.loadV (cs := [.bool na, .slice Aan man can, .slice Aad mad cad]) Try.el31 Try.agg31 rfl rfl hVg11.vcells rfl ?_
      refine WL.move rfl rfl ?_
      refine WL.conv (r := X) Try.underlying54 Try.underlying3 rfl (wi64 (by omega) (by omega) (by omega)) rfl ?_
      refine WL.move rfl rfl ?_
      refine WL.conv (r := Y) Try.underlying54 Try.underlying3 rfl (wi64 (by omega) (by omega) (by omega)) rfl ?_
      refine WL.add (r := (X + Y)) rfl rfl (wi64 (by omega) (by omega) (by omega)) rfl ?_
      obtain ⟨hv1, hv2⟩ := val_parts_lt hLan hLad hqa hq0 hla
      refine WL.call Try.func40 rfl Try.nm40 rfl rfl (qPow_ok han had hLan hLad qa hqa (by omega) (by omega) (by omega) hq0 (small_pow hv1 (by decide) (by omega)) (small_pow hv2 (by decide) (by omega))) ?_
      rintro _ w20 ⟨A21, m22, c23, A24, m25, c26, rfl, hGw20, p1n, p1d, p1m⟩
      have p1n := p1n.low (b' := w.heap.size) hB.size
      have p1d := p1d.low (b' := w.heap.size) hB.size
      have hB := ext_trans hB hGw20
      have han := han0.ext hB
      have had := had0.ext hB
      have hVg11 := hVg11.ext hGw20
      have p1n_l := p1n.rd.ulen
      have p1d_l := p1d.rd.ulen
      refine WL.move rfl rfl ?_
      refine WL.extract rfl rfl rfl ?_
      refine WL.extract rfl rfl rfl ?_
      refine WL.alloc Try.el31 rfl ?_
      intro g27 w28 hg_g27 hVg27 hGw28
      change Own _ _ _ _ _ _ _ [.bool false, .slice none 0 0, .slice none 0 0] at hVg27
      have hlt_g11_g27 : g11 < g27 := by rw [hg_g27]; exact (hVg11.bl_ge _ rfl).2
      have hap_p1n_g27 := ap_old p1n hg_g27
      have hap_p1d_g27 := ap_old p1d hg_g27
      have hVg27 := hVg27.low (b' := w.heap.size) hB.size
      have hB := ext_trans hB hGw28
      have han := han0.ext hB
      have had := had0.ext hB
      have hVg11 := hVg11.ext hGw28
      have p1n := p1n.ext hGw28
      have p1d := p1d.ext hGw28
      refine WL.storeV Try.el31 rfl rfl rfl rfl hVg27 ?_
      have hOld30 := hVg27
      intro w29 hVg27 hGw29
      change Own _ _ _ _ _ _ _ [.bool (qneg (qa ^ (X + Y))), .slice A21 m22 c23, .slice A24 m25 c26] at hVg27
      have hB := ext_own hB hGw29 (fun g hg => (hOld30.bl_ge g hg).1)
      have han := han0.ext hB
      have had := had0.ext hB
      have hVg11 := hVg11.grown hGw29 (apart (by omega))
      have p1n := p1n.grown hGw29 (ap_row (by first | exact hap_p1n_g27 | exact ap_type p1n hOld30 (by decide)))
      have p1d := p1d.grown hGw29 (ap_row (by first | exact hap_p1d_g27 | exact ap_type p1d hOld30 (by decide)))
      refine WL.assign rfl rfl ?_
      refine WL.done ?_
      refine W.seq ?_
      refine W.region ?_
      refine WL.loadV (cs := [.bool na, .slice Aan man can, .slice Aad mad cad]) Try.el31 Try.agg31 rfl rfl hVg11.vcells rfl ?_
      refine WL.move rfl rfl ?_
      refine WL.conv (r := X) Try.underlying54 Try.underlying3 rfl (wi64 (by omega) (by omega) (by omega)) rfl ?_
      refine WL.call Try.func40 rfl Try.nm40 rfl rfl (qPow_ok han had hLan hLad qa hqa (by omega) (by omega) (by omega) hq0 (small_pow hv1 (by decide) (by omega)) (small_pow hv2 (by decide) (by omega))) ?_
      rintro _ w31 ⟨A32, m33, c34, A35, m36, c37, rfl, hGw31, p2n, p2d, p2m⟩
      have p2n := p2n.low (b' := w.heap.size) hB.size
      have p2d := p2d.low (b' := w.heap.size) hB.size
      have hB := ext_trans hB hGw31
      have han := han0.ext hB
      have had := had0.ext hB
      have hVg11 := hVg11.ext hGw31
      have p1n := p1n.ext hGw31
      have p1d := p1d.ext hGw31
      have hVg27 := hVg27.ext hGw31
      have p2n_l := p2n.rd.ulen
      have p2d_l := p2d.rd.ulen
      refine WL.move rfl rfl ?_
      refine WL.extract rfl rfl rfl ?_
      refine WL.extract rfl rfl rfl ?_
      refine WL.alloc Try.el31 rfl ?_
      intro g38 w39 hg_g38 hVg38 hGw39
      change Own _ _ _ _ _ _ _ [.bool false, .slice none 0 0, .slice none 0 0] at hVg38
      have hlt_g11_g38 : g11 < g38 := by rw [hg_g38]; exact (hVg11.bl_ge _ rfl).2
      have hlt_g27_g38 : g27 < g38 := by rw [hg_g38]; exact (hVg27.bl_ge _ rfl).2
      have hap_p1n_g38 := ap_old p1n hg_g38
      have hap_p1d_g38 := ap_old p1d hg_g38
      have hap_p2n_g38 := ap_old p2n hg_g38
      have hap_p2d_g38 := ap_old p2d hg_g38
      have hVg38 := hVg38.low (b' := w.heap.size) hB.size
      have hB := ext_trans hB hGw39
      have han := han0.ext hB
      have had := had0.ext hB
      have hVg11 := hVg11.ext hGw39
      have p1n := p1n.ext hGw39
      have p1d := p1d.ext hGw39
      have hVg27 := hVg27.ext hGw39
      have p2n := p2n.ext hGw39
      have p2d := p2d.ext hGw39
      refine WL.storeV Try.el31 rfl rfl rfl rfl hVg38 ?_
      have hOld41 := hVg38
      intro w40 hVg38 hGw40
      change Own _ _ _ _ _ _ _ [.bool (qneg (qa ^ X)), .slice A32 m33 c34, .slice A35 m36 c37] at hVg38
      have hB := ext_own hB hGw40 (fun g hg => (hOld41.bl_ge g hg).1)
      have han := han0.ext hB
      have had := had0.ext hB
      have hVg11 := hVg11.grown hGw40 (apart (by omega))
      have p1n := p1n.grown hGw40 (ap_row (by first | exact hap_p1n_g38 | exact ap_type p1n hOld41 (by decide)))
      have p1d := p1d.grown hGw40 (ap_row (by first | exact hap_p1d_g38 | exact ap_type p1d hOld41 (by decide)))
      have hVg27 := hVg27.grown hGw40 (apart (by omega))
      have p2n := p2n.grown hGw40 (ap_row (by first | exact hap_p2n_g38 | exact ap_type p2n hOld41 (by decide)))
      have p2d := p2d.grown hGw40 (ap_row (by first | exact hap_p2d_g38 | exact ap_type p2d hOld41 (by decide)))
      refine WL.assign rfl rfl ?_
      refine WL.done ?_
      refine W.seq ?_
      refine W.region ?_
      refine WL.loadV (cs := [.bool na, .slice Aan man can, .slice Aad mad cad]) Try.el31 Try.agg31 rfl rfl hVg11.vcells rfl ?_
      refine WL.move rfl rfl ?_
      refine WL.conv (r := Y) Try.underlying54 Try.underlying3 rfl (wi64 (by omega) (by omega) (by omega)) rfl ?_
      refine WL.call Try.func40 rfl Try.nm40 rfl rfl (qPow_ok han had hLan hLad qa hqa (by omega) (by omega) (by omega) hq0 (small_pow hv1 (by decide) (by omega)) (small_pow hv2 (by decide) (by omega))) ?_
      rintro _ w42 ⟨A43, m44, c45, A46, m47, c48, rfl, hGw42, p3n, p3d, p3m⟩
      have p3n := p3n.low (b' := w.heap.size) hB.size
      have p3d := p3d.low (b' := w.heap.size) hB.size
      have hB := ext_trans hB hGw42
      have hVg11 := hVg11.ext hGw42
      have p1n := p1n.ext hGw42
      have p1d := p1d.ext hGw42
      have hVg27 := hVg27.ext hGw42
      have p2n := p2n.ext hGw42
      have p2d := p2d.ext hGw42
      have hVg38 := hVg38.ext hGw42
      have p3n_l := p3n.rd.ulen
      have p3d_l := p3d.rd.ulen
      refine WL.move rfl rfl ?_
      refine WL.extract rfl rfl rfl ?_
      refine WL.extract rfl rfl rfl ?_
      refine WL.alloc Try.el31 rfl ?_
      intro g49 w50 hg_g49 hVg49 hGw50
      change Own _ _ _ _ _ _ _ [.bool false, .slice none 0 0, .slice none 0 0] at hVg49
      have hlt_g11_g49 : g11 < g49 := by rw [hg_g49]; exact (hVg11.bl_ge _ rfl).2
      have hlt_g27_g49 : g27 < g49 := by rw [hg_g49]; exact (hVg27.bl_ge _ rfl).2
      have hlt_g38_g49 : g38 < g49 := by rw [hg_g49]; exact (hVg38.bl_ge _ rfl).2
      have hap_p1n_g49 := ap_old p1n hg_g49
      have hap_p1d_g49 := ap_old p1d hg_g49
      have hap_p2n_g49 := ap_old p2n hg_g49
      have hap_p2d_g49 := ap_old p2d hg_g49
      have hap_p3n_g49 := ap_old p3n hg_g49
      have hap_p3d_g49 := ap_old p3d hg_g49
      have hVg49 := hVg49.low (b' := w.heap.size) hB.size
      have hB := ext_trans hB hGw50
      have hVg11 := hVg11.ext hGw50
      have p1n := p1n.ext hGw50
      have p1d := p1d.ext hGw50
      have hVg27 := hVg27.ext hGw50
      have p2n := p2n.ext hGw50
      have p2d := p2d.ext hGw50
      have hVg38 := hVg38.ext hGw50
      have p3n := p3n.ext hGw50
      have p3d := p3d.ext hGw50
      refine WL.storeV Try.el31 rfl rfl rfl rfl hVg49 ?_
      have hOld52 := hVg49
      intro w51 hVg49 hGw51
      change Own _ _ _ _ _ _ _ [.bool (qneg (qa ^ Y)), .slice A43 m44 c45, .slice A46 m47 c48] at hVg49
      have hB := ext_own hB hGw51 (fun g hg => (hOld52.bl_ge g hg).1)
      have hVg11 := hVg11.grown hGw51 (apart (by omega))
      have p1n := p1n.grown hGw51 (ap_row (by first | exact hap_p1n_g49 | exact ap_type p1n hOld52 (by decide)))
      have p1d := p1d.grown hGw51 (ap_row (by first | exact hap_p1d_g49 | exact ap_type p1d hOld52 (by decide)))
      have hVg27 := hVg27.grown hGw51 (apart (by omega))
      have p2n := p2n.grown hGw51 (ap_row (by first | exact hap_p2n_g49 | exact ap_type p2n hOld52 (by decide)))
      have p2d := p2d.grown hGw51 (ap_row (by first | exact hap_p2d_g49 | exact ap_type p2d hOld52 (by decide)))
      have hVg38 := hVg38.grown hGw51 (apart (by omega))
      have p3n := p3n.grown hGw51 (ap_row (by first | exact hap_p3n_g49 | exact ap_type p3n hOld52 (by decide)))
      have p3d := p3d.grown hGw51 (ap_row (by first | exact hap_p3d_g49 | exact ap_type p3d hOld52 (by decide)))
      refine WL.assign rfl rfl ?_
      refine WL.done ?_
      refine W.seq ?_
      refine W.drawT 16 [⟨[], [8], true⟩, ⟨[0], [], true⟩, ⟨[1], [], true⟩, ⟨[2], [10], true⟩, ⟨[2, 3], [], true⟩, ⟨[2, 4], [], true⟩, ⟨[5], [], true⟩, ⟨[6], [12], true⟩, ⟨[6, 7], [], true⟩, ⟨[6, 8], [], true⟩, ⟨[9], [], true⟩, ⟨[10], [7], false⟩, ⟨[10], [9], false⟩, ⟨[10], [11], false⟩, ⟨[10, 12, 13], [], false⟩, ⟨[10, 14], [], false⟩] [[(8, .int .i64 (0 : Int))], [], [], [(10, .int .i64 (0 : Int))], [], [], [], [(12, .int .i64 (0 : Int))], [], [], [], [(7, .pointer (some ⟨g27, 0, none⟩))], [(9, .pointer (some ⟨g38, 0, none⟩))], [(11, .pointer (some ⟨g49, 0, none⟩))], [], []] (fun iQ => [fun v wQ => v = .int .i64 (0 : Int), fun v wQ => v = .bool true, fun v wQ => v = .bool true, fun v wQ => v = .int .i64 (0 : Int), fun v wQ => v = .bool true, fun v wQ => v = .bool true, fun v wQ => v = .bool true, fun v wQ => v = .int .i64 (0 : Int), fun v wQ => v = .bool true, fun v wQ => v = .bool true, fun v wQ => v = .bool true, fun v wQ => v = .agg #[.bool (qneg (qa ^ (X + Y))), .slice A21 m22 c23, .slice A24 m25 c26], fun v wQ => v = .agg #[.bool (qneg (qa ^ X)), .slice A32 m33 c34, .slice A35 m36 c37], fun v wQ => v = .agg #[.bool (qneg (qa ^ Y)), .slice A43 m44 c45, .slice A46 m47 c48], fun v wQ => ∃ A68, v = .slice A68 2 2 ∧ (Own w.heap.size wQ 31 3 A68 2 2 [.bool (qneg (qa ^ X)), .slice A32 m33 c34, .slice A35 m36 c37, .bool (qneg (qa ^ Y)), .slice A43 m44 c45, .slice A46 m47 c48]) ∧ (RatsR wQ.heap.size wQ [.bool (qneg (qa ^ X)), .slice A32 m33 c34, .slice A35 m36 c37, .bool (qneg (qa ^ Y)), .slice A43 m44 c45, .slice A46 m47 c48] [((qneg (qa ^ X)), digs (qnum (qa ^ X)), digs (Rat.den (qa ^ X))), ((qneg (qa ^ Y)), digs (qnum (qa ^ Y)), digs (Rat.den (qa ^ Y)))]) ∧ (∀ k, bl A68 = some k → k ≠ g11) ∧ (∀ k, bl A68 = some k → k ≠ g27) ∧ (∀ k, bl A68 = some k → k ≠ g38) ∧ (∀ k, bl A68 = some k → k ≠ g49), fun v wQ => ∃ A74 m75 c76 A77 m78 c79, v = .agg #[.bool (qneg ((qa ^ X) * (qa ^ Y))), .slice A74 m75 c76, .slice A77 m78 c79] ∧ (Own w.heap.size wQ 43 1 A74 m75 c76 (us (digs (qnum ((qa ^ X) * (qa ^ Y)))))) ∧ (Own w.heap.size wQ 43 1 A77 m78 c79 (us (digs (Rat.den ((qa ^ X) * (qa ^ Y)))))) ∧ (m75 ≤ 16389 ∧ m78 ≤ 16389) ∧ (∀ k, bl A74 = some k → k ≠ g11) ∧ (∀ k, bl A74 = some k → k ≠ g27) ∧ (∀ k, bl A74 = some k → k ≠ g38) ∧ (∀ k, bl A74 = some k → k ≠ g49) ∧ (∀ k, bl A77 = some k → k ≠ g11) ∧ (∀ k, bl A77 = some k → k ≠ g27) ∧ (∀ k, bl A77 = some k → k ≠ g38) ∧ (∀ k, bl A77 = some k → k ≠ g49)].getD iQ (fun _ _ => True)) Try.mixed (by kernel_rfl) ?_ ?_ ?_
      · refine Vs_monoT _ ?_
        intro VQ hVQ vQ wQ1 wQ2 hQ1 hQ2
        simp only [List.mem_cons, List.not_mem_nil, or_false] at hVQ
        rcases hVQ with rfl | rfl | rfl | rfl | rfl | rfl | rfl | rfl | rfl | rfl | rfl | rfl | rfl | rfl | rfl | rfl
        · exact hQ1
        · exact hQ1
        · exact hQ1
        · exact hQ1
        · exact hQ1
        · exact hQ1
        · exact hQ1
        · exact hQ1
        · exact hQ1
        · exact hQ1
        · exact hQ1
        · exact hQ1
        · exact hQ1
        · exact hQ1
        · obtain ⟨A68, hQe, hO70, hN71, hap_hO70_g11, hap_hO70_g27, hap_hO70_g38, hap_hO70_g49⟩ := hQ1
          exact ⟨A68, hQe, hO70.ext hQ2, (hN71.ext hQ2).norm, hap_hO70_g11, hap_hO70_g27, hap_hO70_g38, hap_hO70_g49⟩
        · obtain ⟨A74, m75, c76, A77, m78, c79, hQe, p4n, p4d, p4m, hap_p4n_g11, hap_p4n_g27, hap_p4n_g38, hap_p4n_g49, hap_p4d_g11, hap_p4d_g27, hap_p4d_g38, hap_p4d_g49⟩ := hQ1
          exact ⟨A74, m75, c76, A77, m78, c79, hQe, p4n.ext hQ2, p4d.ext hQ2, p4m, hap_p4n_g11, hap_p4n_g27, hap_p4n_g38, hap_p4n_g49, hap_p4d_g11, hap_p4d_g27, hap_p4d_g38, hap_p4d_g49⟩
      · refine ⟨⟨rfl, ⟨rfl, trivial⟩, ?_⟩, ⟨rfl, trivial, ?_⟩, ⟨rfl, trivial, ?_⟩, ⟨rfl, ⟨rfl, trivial⟩, ?_⟩, ⟨rfl, trivial, ?_⟩, ⟨rfl, trivial, ?_⟩, ⟨rfl, trivial, ?_⟩, ⟨rfl, ⟨rfl, trivial⟩, ?_⟩, ⟨rfl, trivial, ?_⟩, ⟨rfl, trivial, ?_⟩, ⟨rfl, trivial, ?_⟩, ⟨rfl, ⟨rfl, trivial⟩, ?_⟩, ⟨rfl, ⟨rfl, trivial⟩, ?_⟩, ⟨rfl, ⟨rfl, trivial⟩, ?_⟩, ⟨rfl, trivial, ?_⟩, ⟨rfl, trivial, ?_⟩, trivial⟩
        · intro w53 hE
          intro R
          refine WL.move rfl rfl ?_
          exact WL.done ⟨_, rfl, rfl, rfl⟩
        · intro w54 hE
          rintro _ rfl
          intro R
          refine WL.eqlD rfl rfl rfl ?_
          exact WL.done ⟨_, rfl, rfl, rfl⟩
        · intro w55 hE
          rintro _ rfl
          intro R
          refine WL.move rfl rfl ?_
          exact WL.done ⟨_, rfl, rfl, rfl⟩
        · intro w56 hE
          rintro _ rfl
          intro R
          refine WL.take rfl ?_
          refine WL.move rfl rfl ?_
          exact WL.done ⟨_, rfl, rfl, rfl⟩
        · intro w57 hE
          rintro _ rfl
          rintro _ rfl
          intro R
          refine WL.take rfl ?_
          refine WL.eqlD rfl rfl rfl ?_
          exact WL.done ⟨_, rfl, rfl, rfl⟩
        · intro w58 hE
          rintro _ rfl
          rintro _ rfl
          intro R
          refine WL.pick rfl rfl rfl ?_
          exact WL.done ⟨_, rfl, rfl, rfl⟩
        · intro w59 hE
          rintro _ rfl
          intro R
          refine WL.move rfl rfl ?_
          exact WL.done ⟨_, rfl, rfl, rfl⟩
        · intro w60 hE
          rintro _ rfl
          intro R
          refine WL.take rfl ?_
          refine WL.move rfl rfl ?_
          exact WL.done ⟨_, rfl, rfl, rfl⟩
        · intro w61 hE
          rintro _ rfl
          rintro _ rfl
          intro R
          refine WL.take rfl ?_
          refine WL.eqlD rfl rfl rfl ?_
          exact WL.done ⟨_, rfl, rfl, rfl⟩
        · intro w62 hE
          rintro _ rfl
          rintro _ rfl
          intro R
          refine WL.pick rfl rfl rfl ?_
          exact WL.done ⟨_, rfl, rfl, rfl⟩
        · intro w63 hE
          rintro _ rfl
          intro R
          refine WL.move rfl rfl ?_
          exact WL.done ⟨_, rfl, rfl, rfl⟩
        · intro w64 hE
          have hE := hE rfl
          have hB := ext_trans hB hE
          have hVg27 := hVg27.ext hE
          rintro _ rfl
          intro R
          refine WL.take rfl ?_
          refine WL.loadV (cs := [.bool (qneg (qa ^ (X + Y))), .slice A21 m22 c23, .slice A24 m25 c26]) Try.el31 Try.agg31 rfl rfl hVg27.vcells rfl ?_
          exact WL.done ⟨_, rfl, ext_refl _, rfl⟩
        · intro w65 hE
          have hE := hE rfl
          have hB := ext_trans hB hE
          have hVg38 := hVg38.ext hE
          rintro _ rfl
          intro R
          refine WL.take rfl ?_
          refine WL.loadV (cs := [.bool (qneg (qa ^ X)), .slice A32 m33 c34, .slice A35 m36 c37]) Try.el31 Try.agg31 rfl rfl hVg38.vcells rfl ?_
          exact WL.done ⟨_, rfl, ext_refl _, rfl⟩
        · intro w66 hE
          have hE := hE rfl
          have hB := ext_trans hB hE
          have hVg49 := hVg49.ext hE
          rintro _ rfl
          intro R
          refine WL.take rfl ?_
          refine WL.loadV (cs := [.bool (qneg (qa ^ Y)), .slice A43 m44 c45, .slice A46 m47 c48]) Try.el31 Try.agg31 rfl rfl hVg49.vcells rfl ?_
          exact WL.done ⟨_, rfl, ext_refl _, rfl⟩
        · intro w67 hE
          have hE := hE rfl
          have hB := ext_trans hB hE
          have hVg11 := hVg11.ext hE
          have hVg27 := hVg27.ext hE
          have p2n := p2n.ext hE
          have p2d := p2d.ext hE
          have hVg38 := hVg38.ext hE
          have p3n := p3n.ext hE
          have p3d := p3d.ext hE
          have hVg49 := hVg49.ext hE
          rintro _ rfl
          rintro _ rfl
          rintro _ rfl
          intro R
          refine WL.take rfl ?_
          refine WL.lit (b := w67.heap.size) (cells := [.bool (qneg (qa ^ X)), .slice A32 m33 c34, .slice A35 m36 c37, .bool (qneg (qa ^ Y)), .slice A43 m44 c45, .slice A46 m47 c48]) Try.underlying44 Try.el31 (by decide) ⟨_, rfl, by kernel_rfl⟩ rfl (Nat.le_refl _) rfl ?_
          rintro A68 w69 - hO70 hGw69
          have hap_hO70_g11 := ap_new hO70 (hVg11.bl_ge _ rfl).2
          have hap_hO70_g27 := ap_new hO70 (hVg27.bl_ge _ rfl).2
          have hap_hO70_g38 := ap_new hO70 (hVg38.bl_ge _ rfl).2
          have hap_hO70_g49 := ap_new hO70 (hVg49.bl_ge _ rfl).2
          have hO70 := hO70.low (b' := w.heap.size) hB.size
          have hB := ext_trans hB hGw69
          have p2n := p2n.ext hGw69
          have p2d := p2d.ext hGw69
          have p3n := p3n.ext hGw69
          have p3d := p3d.ext hGw69
          have hN71 : RatsR w69.heap.size w69 [.bool (qneg (qa ^ X)), .slice A32 m33 c34, .slice A35 m36 c37, .bool (qneg (qa ^ Y)), .slice A43 m44 c45, .slice A46 m47 c48] [((qneg (qa ^ X)), digs (qnum (qa ^ X)), digs (Rat.den (qa ^ X))), ((qneg (qa ^ Y)), digs (qnum (qa ^ Y)), digs (Rat.den (qa ^ Y)))] := (RatsR.cons p2n.rd.norm p2d.rd.norm (RatsR.cons p3n.rd.norm p3d.rd.norm (RatsR.nil _ _)))
          exact WL.done ⟨_, rfl, hGw69, ⟨A68, rfl, hO70, hN71, hap_hO70_g11, hap_hO70_g27, hap_hO70_g38, hap_hO70_g49⟩⟩
        · intro w72 hE
          have hE := hE rfl
          have hB := ext_trans hB hE
          have hVg11 := hVg11.ext hE
          have hVg27 := hVg27.ext hE
          have hVg38 := hVg38.ext hE
          have hVg49 := hVg49.ext hE
          rintro _ rfl
          rintro _ ⟨A68, rfl, hO70, hN71, hap_hO70_g11, hap_hO70_g27, hap_hO70_g38, hap_hO70_g49⟩
          intro R
          refine WL.take rfl ?_
          refine WL.call Try.func34 rfl Try.nm34 rfl rfl (qMul2_c hO70.rd hN71 (digs_lim _) (digs_lim _) (digs_lim _) (digs_lim _) (qa ^ X) (val_canon _) (qa ^ Y) (val_canon _) 4096 (by omega) (by omega)) ?_
          rintro _ w73 ⟨A74, m75, c76, A77, m78, c79, rfl, hGw73, p4n, p4d, p4m⟩
          have hap_p4n_g11 := ap_new p4n (hVg11.bl_ge _ rfl).2
          have hap_p4n_g27 := ap_new p4n (hVg27.bl_ge _ rfl).2
          have hap_p4n_g38 := ap_new p4n (hVg38.bl_ge _ rfl).2
          have hap_p4n_g49 := ap_new p4n (hVg49.bl_ge _ rfl).2
          have hap_p4d_g11 := ap_new p4d (hVg11.bl_ge _ rfl).2
          have hap_p4d_g27 := ap_new p4d (hVg27.bl_ge _ rfl).2
          have hap_p4d_g38 := ap_new p4d (hVg38.bl_ge _ rfl).2
          have hap_p4d_g49 := ap_new p4d (hVg49.bl_ge _ rfl).2
          have p4n := p4n.low (b' := w.heap.size) hB.size
          have p4d := p4d.low (b' := w.heap.size) hB.size
          have hB := ext_trans hB hGw73
          have p4n_l := p4n.rd.ulen
          have p4d_l := p4d.rd.ulen
          exact WL.done ⟨_, rfl, hGw73, ⟨A74, m75, c76, A77, m78, c79, rfl, p4n, p4d, p4m, hap_p4n_g11, hap_p4n_g27, hap_p4n_g38, hap_p4n_g49, hap_p4d_g11, hap_p4d_g27, hap_p4d_g38, hap_p4d_g49⟩⟩
      · intro vals w80 hT hVs
        have hB := ext_trans hB hT
        have p1n := p1n.ext hT
        have p1d := p1d.ext hT
        have hv0 : vals 0 = _ := hVs 0 (by decide)
        have hv1 : vals 1 = _ := hVs 1 (by decide)
        have hv2 : vals 2 = _ := hVs 2 (by decide)
        have hv3 : vals 3 = _ := hVs 3 (by decide)
        have hv4 : vals 4 = _ := hVs 4 (by decide)
        have hv5 : vals 5 = _ := hVs 5 (by decide)
        have hv6 : vals 6 = _ := hVs 6 (by decide)
        have hv7 : vals 7 = _ := hVs 7 (by decide)
        have hv8 : vals 8 = _ := hVs 8 (by decide)
        have hv9 : vals 9 = _ := hVs 9 (by decide)
        have hv10 : vals 10 = _ := hVs 10 (by decide)
        have hv11 : vals 11 = _ := hVs 11 (by decide)
        have hv12 : vals 12 = _ := hVs 12 (by decide)
        have hv13 : vals 13 = _ := hVs 13 (by decide)
        obtain ⟨A68, hv14, hO70, hN71, hap_hO70_g11, hap_hO70_g27, hap_hO70_g38, hap_hO70_g49⟩ := hVs 14 (by decide)
        obtain ⟨A74, m75, c76, A77, m78, c79, hv15, p4n, p4d, p4m, hap_p4n_g11, hap_p4n_g27, hap_p4n_g38, hap_p4n_g49, hap_p4d_g11, hap_p4d_g27, hap_p4d_g38, hap_p4d_g49⟩ := hVs 15 (by decide)
        rw [show (List.filterMap (fun i => Option.map (fun t => (t, vals i)) (dstAt _ i)) (List.range _)) = [(48, .int .i64 (0 : Int)), (49, .bool true), (50, .bool true), (51, .int .i64 (0 : Int)), (52, .bool true), (53, .bool true), (54, .bool true), (55, .int .i64 (0 : Int)), (56, .bool true), (57, .bool true), (58, .bool true), (59, .agg #[.bool (qneg (qa ^ (X + Y))), .slice A21 m22 c23, .slice A24 m25 c26]), (60, .agg #[.bool (qneg (qa ^ X)), .slice A32 m33 c34, .slice A35 m36 c37]), (61, .agg #[.bool (qneg (qa ^ Y)), .slice A43 m44 c45, .slice A46 m47 c48]), (62, .slice A68 2 2), (63, .agg #[.bool (qneg ((qa ^ X) * (qa ^ Y))), .slice A74 m75 c76, .slice A77 m78 c79])] from by
          show [(48, vals 0), (49, vals 1), (50, vals 2), (51, vals 3), (52, vals 4), (53, vals 5), (54, vals 6), (55, vals 7), (56, vals 8), (57, vals 9), (58, vals 10), (59, vals 11), (60, vals 12), (61, vals 13), (62, vals 14), (63, vals 15)] = _
          rw [hv0, hv1, hv2, hv3, hv4, hv5, hv6, hv7, hv8, hv9, hv10, hv11, hv12, hv13, hv14, hv15]]
        refine WA.step [16] (by decide +kernel) rfl ?_
        intro iQ hQ
        simp only [List.mem_cons, List.not_mem_nil, or_false] at hQ
        obtain rfl := hQ
        · refine ⟨_, rfl, ?_⟩
          refine WL.take rfl ?_
          refine WL.call Try.func18 rfl Try.nm18 rfl rfl (qsame_t p1n.rd p1d.rd p4n.rd p4d.rd (can_eq (zp_add hq0 X Y))) ?_
          rintro _ w81 ⟨rfl, hGw81⟩
          have hB := ext_trans hB hGw81
          refine WL.done ?_
          refine WA.step [17] (by decide +kernel) rfl ?_
          intro iQ hQ
          simp only [List.mem_cons, List.not_mem_nil, or_false] at hQ
          obtain rfl := hQ
          · refine ⟨_, rfl, ?_⟩
            refine WL.pick rfl rfl rfl ?_
            refine WL.done ?_
            refine WA.step [18] (by decide +kernel) rfl ?_
            intro iQ hQ
            simp only [List.mem_cons, List.not_mem_nil, or_false] at hQ
            obtain rfl := hQ
            · refine ⟨_, rfl, ?_⟩
              refine WL.assign rfl rfl ?_
              refine WL.done ?_
              refine WA.done (by decide +kernel) ?_
              refine W.ret ?_
              refine ⟨_, rfl, ?_⟩
              exact ⟨rfl, hB⟩
  · have hlo := hlo_t rfl
    refine WL.done ?_
    refine W.condT rfl ?_
    refine W.seq ?_
    refine W.region ?_
    refine WL.assign rfl rfl ?_
    refine WL.done ?_
    refine W.ret ?_
    refine ⟨_, rfl, ?_⟩
    exact ⟨rfl, hB⟩

theorem RationalExponents_c {w : World} {Ban : Nat} {Aan : Option Addr} {man can : Nat} {xan : List Nat} (han : Rd Ban w 1 Aan man can (us xan)) {Bad : Nat} {Aad : Option Addr} {mad cad : Nat} {xad : List Nat} (had : Rd Bad w 1 Aad mad cad (us xad)) {na : Bool} (hLan : Lim xan) (hLad : Lim xad) (hza : man * 4 ≤ 140737488351232 ∧ mad * 4 ≤ 140737488351232) {X : Int} (hX : -128 ≤ X ∧ X ≤ 127) {Y : Int} (hY : -128 ≤ Y ∧ Y ≤ 127) : Calls Try.prog 12 #[.agg #[.bool na, .slice Aan man can, .slice Aad mad cad], .int .i8 X, .int .i8 Y] w fun e w2 => ∃ v, e = .returned v ∧ (fun v w2 => v = .bool true ∧ w.grownBy w2 none) v w2 := by
  by_cases h : val na (nv xan) (nv xad) = 0
  · exact RationalExponents_z han had hLan hLad hza hX hY _ rfl h
  · exact RationalExponents_ok han had hLan hLad hza hX hY _ rfl h
end Go.Proofs.Ythfpcebcfjlkmab
