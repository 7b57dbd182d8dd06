/- Contracts of functions of the program, and what they lean on: D8, Fa, Fb, Fg. -/
import Derived.Test.YtinibbfpdbddpaaFieldFrobeniusG7
set_option linter.unusedSimpArgs false
set_option linter.unusedVariables false
namespace Go.Proofs.Ytinibbfpdbddpaa
open Go.RowKit
def V_FieldChecks (Pf : Int) (Mf : Int) (mf : List Int) (x : Int) (Q : Bool → Prop) : Prop :=
  V_alive  (fun r14 => (((!r14) = true) → Q false) ∧ ((!r14) = false → (V_rCheck Pf Mf mf (fun r17 => V_New Pf Mf mf (fun q => match q with | (none, r20) => V_check Pf Mf mf (fun r28 => ((r28 ≠ r17) → Q false) ∧ (¬ (r28 ≠ r17) → (((r20 ≠ r17) → Q false) ∧ (¬ (r20 ≠ r17) → (((r17 ≠ (0 : Int)) → Q true) ∧ (¬ (r17 ≠ (0 : Int)) → Q false)))))) | (some F21, r20) => V_check Pf Mf mf (fun r65 => ((r65 ≠ r17) → Q false) ∧ (¬ (r65 ≠ r17) → (((r20 ≠ r17) → Q false) ∧ (¬ (r20 ≠ r17) → (((r17 ≠ (0 : Int)) → Q true) ∧ (¬ (r17 ≠ (0 : Int)) → (∃ (r74 : Int) (r75 : Int) (x76 : List Int), V_field F21 (fun q => q = (r74, r75, x76)) ∧ ((V_same r74 r75 x76 Pf Mf mf (fun q => q = true)) ∧ (∃ (r93 : Int) (r94 : Int) (x95 : List Int), V_field F21 (fun q => q = (r93, r94, x95)) ∧ ((V_rSame r93 r94 x95 Pf Mf mf (fun q => q = true)) ∧ (∃ (r112 : Int), V_Order F21 (fun q => q = r112) ∧ (∃ (r117 : Int), V_rOrder Pf Mf mf (fun q => q = r117) ∧ ((r112 = r117) ∧ (∃ (r127 : Bool), V_Is F21 x (fun q => q = r127) ∧ (∃ (r133 : Bool), V_rIs Pf Mf mf x (fun q => q = r133) ∧ (Q (r127 == r133))))))))))))))))))))))
def V_FieldSame (Pf : Int) (Mf : Int) (mf : List Int) (Ph : Int) (Mh : Int) (mh : List Int) (Q : Bool → Prop) : Prop :=
  V_alive  (fun r16 => (((!r16) = true) → Q false) ∧ ((!r16) = false → (∃ (r21 : Bool), V_same Pf Mf mf Ph Mh mh (fun q => q = r21) ∧ (∃ (r27 : Bool), V_rSame Pf Mf mf Ph Mh mh (fun q => q = r27) ∧ (((r21 == r27) = true) ∧ ((V_same Pf Mf mf Pf Mf mf (fun q => q = true)) ∧ (∃ (r44 : Bool), V_same Ph Mh mh Pf Mf mf (fun q => q = r44) ∧ (∃ (r50 : Bool), V_same Pf Mf mf Ph Mh mh (fun q => q = r50) ∧ (Q (r44 == r50))))))))))
def V_FieldStandard (qo : Int) (Q : Bool → Prop) : Prop :=
  V_alive  (fun r12 => (((!r12) = true) → Q false) ∧ ((!r12) = false → (V_Standard qo (fun q => match q with | ((r15, r16, x17), r21) => V_rStandard qo (fun q => match q with | ((r26, r27, x28), r32) => (((!r32) = true) → (((r21 = (6 : Int)) → (V_rSame r15 r16 x17 (0 : Int) (0 : Int) ([] : List Int) (fun r39 => Q r39))) ∧ (¬ (r21 = (6 : Int)) → Q false))) ∧ ((!r32) = false → (((r21 = (0 : Int)) → (V_rSame r15 r16 x17 r26 r27 x28 (fun r42 => Q r42))) ∧ (¬ (r21 = (0 : Int)) → Q false))))))))
theorem ok_FieldStandard {w : World} {Q : Bool → Prop} {qo : Int}  (hv : V_FieldStandard qo Q) :
    Calls Try.prog 5 #[.int .i64 qo] w fun e w' => ∃ v Qr, e = .returned v ∧ w.grownBy w' none ∧ Rows w.heap.size none w' Qr ∧ News w.heap.size Qr ∧ ∃ (r0 : Bool), v = .bool r0 ∧ Qr = [] ∧ Q r0 := by
  refine calls_swap ?_
  refine calls_of_W (vs := [.int .i64 qo]) [2] Try.func5 rfl rfl rfl rfl ?_
  have hS := St.start w
  unfold V_FieldStandard at hv
  refine W.seq ?_
  refine W.region ?_
  refine WL.assign rfl rfl ?_
  refine WL.done ?_
  refine W.seq ?_
  refine W.seq ?_
  refine W.region ?_
  refine SL.call hS (ok_alive  hv) Try.func17 rfl Try.nm17 rfl rfl ?_
  rintro _ _ w11 ⟨r12, rfl, rfl, hv⟩ hGw11 hS
  change St _ _ _ _ [] at hS
  refine WL.not rfl rfl ?_
  refine WL.done ?_
  refine W.cond2 rfl (fun c13 => ?_) (fun c13 => ?_)
  · have hv := hv.1 (c13)
    refine W.seq ?_
    refine W.region ?_
    refine WL.assign rfl rfl ?_
    refine WL.done ?_
    refine W.ret ?_
    refine ⟨_, rfl, Fin.nil ?_⟩
    exact ⟨_, hS.ext, (hS.pick [] rfl).rows, News.of (hS.pick [] rfl).rows rfl, ⟨false, rfl, rfl, hv⟩⟩
  · have hv := hv.2 (c13)
    refine W.skip ?_
    refine W.seq ?_
    refine W.region ?_
    refine WL.move rfl rfl ?_
    refine SL.call hS (ok_Standard  hv) Try.func28 rfl Try.nm28 rfl rfl ?_
    rintro _ _ w14 ⟨r15, r16, x17, r21, A18, k19, rfl, rfl, hv⟩ hGw14 hS
    change St _ _ _ _ [.row 3 1 A18 x17.length k19 (is x17)] at hS
    refine WL.move rfl rfl ?_
    refine WL.extract rfl rfl rfl ?_
    refine WL.extract rfl rfl rfl ?_
    refine SL.alloc (cs := [.int .i64 (0 : Int), .int .i64 (0 : Int), .slice none 0 0]) hS Try.el24 rfl rfl ?_
    intro g22 w23 hS
    refine SL.storeV (cs := [.int .i64 r15, .int .i64 r16, .slice A18 x17.length k19]) 0 hS rfl Try.el24 rfl rfl rfl rfl rfl ?_
    intro w24 hS
    refine WL.assign rfl rfl ?_
    refine WL.done ?_
    refine W.seq ?_
    refine W.region ?_
    refine WL.move rfl rfl ?_
    refine SL.call hS (ok_rStandard  hv) Try.func29 rfl Try.nm29 rfl rfl ?_
    rintro _ _ w25 ⟨r26, r27, x28, r32, A29, k30, rfl, rfl, hv⟩ hGw25 hS
    change St _ _ _ _ [.row 3 1 A29 x28.length k30 (is x28), .row 24 3 (some ⟨g22, 0, none⟩) 1 1 [.int .i64 r15, .int .i64 r16, .slice A18 x17.length k19], .row 3 1 A18 x17.length k19 (is x17)] at hS
    refine WL.move rfl rfl ?_
    refine WL.extract rfl rfl rfl ?_
    refine WL.extract rfl rfl rfl ?_
    refine SL.alloc (cs := [.int .i64 (0 : Int), .int .i64 (0 : Int), .slice none 0 0]) hS Try.el24 rfl rfl ?_
    intro g33 w34 hS
    refine SL.storeV (cs := [.int .i64 r26, .int .i64 r27, .slice A29 x28.length k30]) 0 hS rfl Try.el24 rfl rfl rfl rfl rfl ?_
    intro w35 hS
    refine WL.assign rfl rfl ?_
    refine WL.done ?_
    refine W.seq ?_
    refine W.seq ?_
    refine W.region ?_
    refine WL.move rfl rfl ?_
    refine WL.not rfl rfl ?_
    refine WL.done ?_
    refine W.cond2 rfl (fun c36 => ?_) (fun c36 => ?_)
    · have hv := hv.1 (c36)
      refine W.seq ?_
      refine W.region ?_
      refine WL.move rfl rfl ?_
      refine WL.eqlD rfl rfl rfl ?_
      refine WL.move rfl rfl ?_
      by_cases g37 : r21 = (6 : Int)
      · have hv := hv.1 g37
        rw [decide_eq_true g37]
        refine WL.take rfl ?_
        refine WL.loadV (cs := [.int .i64 r15, .int .i64 r16, .slice A18 x17.length k19]) Try.el24 Try.agg24 rfl rfl (Own.vcells (hS.own (i := 2) rfl)) rfl ?_
        refine WL.take rfl ?_
        refine WL.build (cells := #[.int .i64 (0 : Int), .int .i64 (0 : Int), .slice none 0 0]) Try.bld24 rfl rfl rfl ?_
        refine WL.take rfl ?_
        refine SL.call hS (ok_rSame (hS.rd (i := 3) rfl) (Rd.nilL w35) hv) Try.func23 rfl Try.nm23 rfl rfl ?_
        rintro _ _ w38 ⟨r39, rfl, rfl, hv⟩ hGw38 hS
        change St _ _ _ _ [.row 24 3 (some ⟨g33, 0, none⟩) 1 1 [.int .i64 r26, .int .i64 r27, .slice A29 x28.length k30], .row 3 1 A29 x28.length k30 (is x28), .row 24 3 (some ⟨g22, 0, none⟩) 1 1 [.int .i64 r15, .int .i64 r16, .slice A18 x17.length k19], .row 3 1 A18 x17.length k19 (is x17)] at hS
        refine WL.pick rfl rfl rfl ?_
        refine WL.assign rfl rfl ?_
        refine WL.done ?_
        refine W.ret ?_
        refine ⟨_, rfl, Fin.nil ?_⟩
        exact ⟨_, hS.ext, (hS.pick [] rfl).rows, News.of (hS.pick [] rfl).rows rfl, ⟨r39, rfl, rfl, hv⟩⟩
      · have hv := hv.2 g37
        rw [decide_eq_false g37]
        refine WL.pass rfl rfl rfl ?_
        refine WL.pass rfl rfl rfl ?_
        refine WL.pass rfl rfl rfl ?_
        refine WL.pick rfl rfl rfl ?_
        refine WL.assign rfl rfl ?_
        refine WL.done ?_
        refine W.ret ?_
        refine ⟨_, rfl, Fin.nil ?_⟩
        exact ⟨_, hS.ext, (hS.pick [] rfl).rows, News.of (hS.pick [] rfl).rows rfl, ⟨false, rfl, rfl, hv⟩⟩
    · have hv := hv.2 (c36)
      refine W.skip ?_
      refine W.seq ?_
      refine W.region ?_
      refine WL.move rfl rfl ?_
      refine WL.eqlD rfl rfl rfl ?_
      refine WL.move rfl rfl ?_
      by_cases g40 : r21 = (0 : Int)
      · have hv := hv.1 g40
        rw [decide_eq_true g40]
        refine WL.take rfl ?_
        refine WL.loadV (cs := [.int .i64 r15, .int .i64 r16, .slice A18 x17.length k19]) Try.el24 Try.agg24 rfl rfl (Own.vcells (hS.own (i := 2) rfl)) rfl ?_
        refine WL.take rfl ?_
        refine WL.loadV (cs := [.int .i64 r26, .int .i64 r27, .slice A29 x28.length k30]) Try.el24 Try.agg24 rfl rfl (Own.vcells (hS.own (i := 0) rfl)) rfl ?_
        refine WL.take rfl ?_
        refine SL.call hS (ok_rSame (hS.rd (i := 3) rfl) (hS.rd (i := 1) rfl) hv) Try.func23 rfl Try.nm23 rfl rfl ?_
        rintro _ _ w41 ⟨r42, rfl, rfl, hv⟩ hGw41 hS
        change St _ _ _ _ [.row 24 3 (some ⟨g33, 0, none⟩) 1 1 [.int .i64 r26, .int .i64 r27, .slice A29 x28.length k30], .row 3 1 A29 x28.length k30 (is x28), .row 24 3 (some ⟨g22, 0, none⟩) 1 1 [.int .i64 r15, .int .i64 r16, .slice A18 x17.length k19], .row 3 1 A18 x17.length k19 (is x17)] at hS
        refine WL.pick rfl rfl rfl ?_
        refine WL.assign rfl rfl ?_
        refine WL.done ?_
        refine W.ret ?_
        refine ⟨_, rfl, Fin.nil ?_⟩
        exact ⟨_, hS.ext, (hS.pick [] rfl).rows, News.of (hS.pick [] rfl).rows rfl, ⟨r42, rfl, rfl, hv⟩⟩
      · have hv := hv.2 g40
        rw [decide_eq_false g40]
        refine WL.pass rfl rfl rfl ?_
        refine WL.pass rfl rfl rfl ?_
        refine WL.pass rfl rfl rfl ?_
        refine WL.pick rfl rfl rfl ?_
        refine WL.assign rfl rfl ?_
        refine WL.done ?_
        refine W.ret ?_
        refine ⟨_, rfl, Fin.nil ?_⟩
        exact ⟨_, hS.ext, (hS.pick [] rfl).rows, News.of (hS.pick [] rfl).rows rfl, ⟨false, rfl, rfl, hv⟩⟩

def V_FieldAdds (Pf : Int) (Mf : Int) (mf : List Int) (x : Int) (y : Int) (Q : Bool → Prop) : Prop :=
  V_alive  (fun r14 => (((!r14) = true) → Q false) ∧ ((!r14) = false → (V_made Pf Mf mf (fun q => match q with | none => V_none Pf Mf mf (fun r26 => Q r26) | some F19 => ∃ (r31 : Int), V_Add F19 x y (fun q => q = r31) ∧ (∃ (r38 : Int), V_rAdd Pf Mf mf x y (fun q => q = r38) ∧ ((r31 = r38) ∧ (∃ (r47 : Int), V_Neg F19 x (fun q => q = r47) ∧ (∃ (r53 : Int), V_rNeg Pf Mf mf x (fun q => q = r53) ∧ ((r47 = r53) ∧ (∃ (r64 : Int), V_Sub F19 x y (fun q => q = r64) ∧ (∃ (r71 : Int), V_rSub Pf Mf mf x y (fun q => q = r71) ∧ (Q (decide (r64 = r71))))))))))))))
def V_FieldMultiplies (Pf : Int) (Mf : Int) (mf : List Int) (x : Int) (y : Int) (Q : Bool → Prop) : Prop :=
  V_alive  (fun r14 => (((!r14) = true) → Q false) ∧ ((!r14) = false → (V_made Pf Mf mf (fun q => match q with | none => V_none Pf Mf mf (fun r26 => Q r26) | some F19 => ∃ (r31 : Int), V_Mul F19 x y (fun q => q = r31) ∧ (∃ (r38 : Int), V_rMul Pf Mf mf x y (fun q => q = r38) ∧ ((r31 = r38) ∧ Q true))))))
def V_FieldDivides (Pf : Int) (Mf : Int) (mf : List Int) (x : Int) (y : Int) (Q : Bool → Prop) : Prop :=
  V_alive  (fun r14 => (((!r14) = true) → Q false) ∧ ((!r14) = false → (V_made Pf Mf mf (fun q => match q with | none => V_none Pf Mf mf (fun r26 => Q r26) | some F19 => ∃ (r30 : Int), V_rIn Pf Mf mf x (fun q => q = r30) ∧ (∃ (r36 : Int), V_rIn Pf Mf mf y (fun q => q = r36) ∧ (V_Inv F19 y (fun q => match q with | (r43, r44) => V_Div F19 x y (fun q => match q with | (r46, r47) => ((r36 = (0 : Int)) → (((r44 = (7 : Int)) → (((r47 = (7 : Int)) → (((r43 = (0 : Int)) → (Q (decide (r46 = (0 : Int))))) ∧ (¬ (r43 = (0 : Int)) → Q false))) ∧ (¬ (r47 = (7 : Int)) → Q false))) ∧ (¬ (r44 = (7 : Int)) → Q false))) ∧ (¬ (r36 = (0 : Int)) → (((r44 = (0 : Int)) → (((r47 = (0 : Int)) → (V_Is F19 r43 (fun r55 => ((r55 = true) → (V_Is F19 r46 (fun r58 => ((r58 = true) → (V_rMul Pf Mf mf r43 r36 (fun r61 => ((r61 = (1 : Int)) → (V_rMul Pf Mf mf r46 r36 (fun r64 => Q (decide (r64 = r30))))) ∧ (¬ (r61 = (1 : Int)) → Q false)))) ∧ (r58 = false → Q false)))) ∧ (r55 = false → Q false)))) ∧ (¬ (r47 = (0 : Int)) → Q false))) ∧ (¬ (r44 = (0 : Int)) → Q false)))))))))))
def V_FieldPowers (Pf : Int) (Mf : Int) (mf : List Int) (x : Int) (n : Int) (Q : Bool → Prop) : Prop :=
  V_alive  (fun r14 => (((!r14) = true) → Q false) ∧ ((!r14) = false → (V_made Pf Mf mf (fun q => match q with | none => V_none Pf Mf mf (fun r26 => Q r26) | some F19 => V_Pow F19 x n (fun q => match q with | (r28, r29) => V_rPow Pf Mf mf x n (fun q => match q with | (r31, r32) => ((r28 = r31) → (Q (decide (r29 = r32)))) ∧ (¬ (r28 = r31) → Q false)))))))
def V_FieldAxioms (Pf : Int) (Mf : Int) (mf : List Int) (vv0 : Int) (vv1 : Int) (vv2 : Int) (Q : Bool → Prop) : Prop :=
  V_alive  (fun r16 => (((!r16) = true) → Q false) ∧ ((!r16) = false → (V_made Pf Mf mf (fun q => match q with | none => V_none Pf Mf mf (fun r38 => Q r38) | some F31 => V_Add F31 vv0 (0 : Int) (fun r40 => V_rIn Pf Mf mf vv0 (fun r42 => ((r40 ≠ r42) → Q false) ∧ (¬ (r40 ≠ r42) → (V_Mul F31 vv0 (1 : Int) (fun r45 => ((r45 ≠ r40) → Q false) ∧ (¬ (r45 ≠ r40) → (V_Add F31 vv0 vv1 (fun r48 => V_Add F31 vv1 vv0 (fun r50 => ((r48 ≠ r50) → Q false) ∧ (¬ (r48 ≠ r50) → (V_Mul F31 vv0 vv1 (fun r53 => V_Mul F31 vv1 vv0 (fun r55 => ((r53 ≠ r55) → Q false) ∧ (¬ (r53 ≠ r55) → (V_Add F31 vv0 vv1 (fun r58 => V_Add F31 r58 vv2 (fun r60 => V_Add F31 vv1 vv2 (fun r62 => V_Add F31 vv0 r62 (fun r64 => ((r60 = r64) → (V_Mul F31 vv0 vv1 (fun r67 => V_Mul F31 r67 vv2 (fun r69 => V_Mul F31 vv1 vv2 (fun r71 => V_Mul F31 vv0 r71 (fun r73 => ((r69 = r73) → (V_Add F31 vv1 vv2 (fun r76 => V_Mul F31 vv0 r76 (fun r78 => V_Mul F31 vv0 vv1 (fun r80 => V_Mul F31 vv0 vv2 (fun r82 => V_Add F31 r80 r82 (fun r84 => Q (decide (r78 = r84))))))))) ∧ (¬ (r69 = r73) → Q false))))))) ∧ (¬ (r60 = r64) → Q false))))))))))))))))))))))))
def V_FieldFrobenius (Pf : Int) (Mf : Int) (mf : List Int) (x : Int) (y : Int) (Q : Bool → Prop) : Prop :=
  V_alive  (fun r14 => (((!r14) = true) → Q false) ∧ ((!r14) = false → (V_made Pf Mf mf (fun q => match q with | none => V_none Pf Mf mf (fun r26 => Q r26) | some F19 => V_Pow F19 x Pf (fun q => match q with | (r28, r29) => V_Pow F19 y Pf (fun q => match q with | (r31, r32) => ∃ (r38 : Int), V_Add F19 x y (fun q => q = r38) ∧ (∃ (r44 : Int) (r45 : Int), V_Pow F19 r38 Pf (fun q => q = (r44, r45)) ∧ (V_Order F19 (fun r55 => V_Pow F19 x r55 (fun q => match q with | (r57, r58) => V_Add F19 r28 r31 (fun r60 => ((r44 = r60) → (V_rIn Pf Mf mf x (fun r63 => Q (decide (r57 = r63))))) ∧ (¬ (r44 = r60) → Q false))))))))))))
theorem ok_FieldFrobenius {w : World} {Q : Bool → Prop} {Pf : Int} {Mf : Int} {mf : List Int} {x : Int} {y : Int} {Bf : Nat} {Af : Option Addr} {nf kf : Nat} (hf : Rd Bf w 1 Af nf kf (is mf)) (hv : V_FieldFrobenius Pf Mf mf x y Q) :
    Calls Try.prog 11 #[.agg #[.int .i64 Pf, .int .i64 Mf, .slice Af nf kf], .int .i64 x, .int .i64 y] w fun e w' => ∃ v Qr, e = .returned v ∧ w.grownBy w' none ∧ Rows w.heap.size none w' Qr ∧ News w.heap.size Qr ∧ ∃ (r0 : Bool), v = .bool r0 ∧ Qr = [] ∧ Q r0 := by
  have hnf := hf.ilen
  subst hnf
  refine calls_swap ?_
  refine calls_of_W (vs := [.agg #[.int .i64 Pf, .int .i64 Mf, .slice Af mf.length kf], .int .i64 x, .int .i64 y]) [6] Try.func11 rfl rfl rfl rfl ?_
  have hS := St.start w
  unfold V_FieldFrobenius at hv
  refine W.seq ?_
  refine W.region ?_
  refine SL.box (z := 3) (cs := [.int .i64 Pf, .int .i64 Mf, .slice Af mf.length kf]) hS rfl rfl rfl rfl ?_
  intro g11 w12 hS
  refine WL.assign rfl rfl ?_
  refine WL.done ?_
  refine W.seq ?_
  refine W.seq ?_
  refine W.region ?_
  refine SL.call hS (ok_alive  hv) Try.func17 rfl Try.nm17 rfl rfl ?_
  rintro _ _ w13 ⟨r14, rfl, rfl, hv⟩ hGw13 hS
  change St _ _ _ _ [.row 24 3 (some ⟨g11, 0, none⟩) 1 1 [.int .i64 Pf, .int .i64 Mf, .slice Af mf.length kf]] at hS
  refine WL.not rfl rfl ?_
  refine WL.done ?_
  refine W.cond2 rfl (fun c15 => ?_) (fun c15 => ?_)
  · have hv := hv.1 (c15)
    refine W.seq ?_
    refine W.region ?_
    refine WL.assign rfl rfl ?_
    refine WL.done ?_
    refine W.ret ?_
    refine ⟨_, rfl, Fin.nil ?_⟩
    exact ⟨_, hS.ext, (hS.pick [] rfl).rows, News.of (hS.pick [] rfl).rows rfl, ⟨false, rfl, rfl, hv⟩⟩
  · have hv := hv.2 (c15)
    refine W.skip ?_
    refine W.seq ?_
    refine W.region ?_
    refine WL.loadV (cs := [.int .i64 Pf, .int .i64 Mf, .slice Af mf.length kf]) Try.el24 Try.agg24 rfl rfl (Own.vcells (hS.own (i := 0) rfl)) rfl ?_
    refine SL.call hS (ok_made (hS.ro hf) hv) Try.func30 rfl Try.nm30 rfl rfl ?_
    rintro _ _ w17 ⟨o, hv, hK⟩ hGw17 hS
    cases o with
    | none =>
      obtain ⟨⟨pv24, rfl⟩, rfl⟩ := hK
      change St _ _ _ _ [.row 24 3 (some ⟨g11, 0, none⟩) 1 1 [.int .i64 Pf, .int .i64 Mf, .slice Af mf.length kf]] at hS
      refine WL.move rfl rfl ?_
      refine WL.extract rfl rfl rfl ?_
      refine WL.extract rfl rfl rfl ?_
      refine WL.assign rfl rfl ?_
      refine WL.assign rfl rfl ?_
      refine WL.done ?_
      refine W.seq ?_
      refine W.seq ?_
      refine W.region ?_
      refine WL.move rfl rfl ?_
      refine WL.not rfl rfl ?_
      refine WL.done ?_
      refine W.condT rfl ?_
      refine W.seq ?_
      refine W.region ?_
      refine WL.loadV (cs := [.int .i64 Pf, .int .i64 Mf, .slice Af mf.length kf]) Try.el24 Try.agg24 rfl rfl (Own.vcells (hS.own (i := 0) rfl)) rfl ?_
      refine SL.call hS (ok_none (hS.ro hf) hv) Try.func31 rfl Try.nm31 rfl rfl ?_
      rintro _ _ w25 ⟨r26, rfl, rfl, hv⟩ hGw25 hS
      change St _ _ _ _ [.row 24 3 (some ⟨g11, 0, none⟩) 1 1 [.int .i64 Pf, .int .i64 Mf, .slice Af mf.length kf]] at hS
      refine WL.assign rfl rfl ?_
      refine WL.done ?_
      refine W.ret ?_
      refine ⟨_, rfl, Fin.nil ?_⟩
      exact ⟨_, hS.ext, (hS.pick [] rfl).rows, News.of (hS.pick [] rfl).rows rfl, ⟨r26, rfl, rfl, hv⟩⟩
    | some F19 =>
      obtain ⟨ad20, lo21, hi22, rfl, rfl⟩ := hK
      change St _ _ _ _ [.ch lo21 hi22 (fun wz => GFX lo21 hi22 wz ad20 F19), .row 24 3 (some ⟨g11, 0, none⟩) 1 1 [.int .i64 Pf, .int .i64 Mf, .slice Af mf.length kf]] at hS
      refine WL.move rfl rfl ?_
      refine WL.extract rfl rfl rfl ?_
      refine WL.extract rfl rfl rfl ?_
      refine WL.assign rfl rfl ?_
      refine WL.assign rfl rfl ?_
      refine WL.done ?_
      refine W.seq ?_
      refine W.seq ?_
      refine W.region ?_
      refine WL.move rfl rfl ?_
      refine WL.not rfl rfl ?_
      refine WL.done ?_
      refine W.condF rfl ?_
      refine W.skip ?_
      refine W.seq ?_
      refine W.region ?_
      refine WL.move rfl rfl ?_
      refine WL.move rfl rfl ?_
      refine WL.fieldA (off := 0) Try.fla24_0 rfl rfl ?_
      refine WL.load Try.underlying3 rfl rfl (Own.vcells (hS.own (i := 1) rfl) 0 _ rfl) rfl ?_
      refine SL.call hS (ok_Pow (GFX.gfr (hS.chunk (i := 0) rfl)) hv) Try.func43 rfl Try.nm43 rfl rfl ?_
      rintro _ _ w27 ⟨r28, r29, rfl, rfl, hv⟩ hGw27 hS
      change St _ _ _ _ [.ch lo21 hi22 (fun wz => GFX lo21 hi22 wz ad20 F19), .row 24 3 (some ⟨g11, 0, none⟩) 1 1 [.int .i64 Pf, .int .i64 Mf, .slice Af mf.length kf]] at hS
      refine WL.move rfl rfl ?_
      refine WL.extract rfl rfl rfl ?_
      refine WL.extract rfl rfl rfl ?_
      refine WL.assign rfl rfl ?_
      refine WL.assign rfl rfl ?_
      refine WL.done ?_
      refine W.seq ?_
      refine W.region ?_
      refine WL.move rfl rfl ?_
      refine WL.move rfl rfl ?_
      refine WL.fieldA (off := 0) Try.fla24_0 rfl rfl ?_
      refine WL.load Try.underlying3 rfl rfl (Own.vcells (hS.own (i := 1) rfl) 0 _ rfl) rfl ?_
      refine SL.call hS (ok_Pow (GFX.gfr (hS.chunk (i := 0) rfl)) hv) Try.func43 rfl Try.nm43 rfl rfl ?_
      rintro _ _ w30 ⟨r31, r32, rfl, rfl, hv⟩ hGw30 hS
      change St _ _ _ _ [.ch lo21 hi22 (fun wz => GFX lo21 hi22 wz ad20 F19), .row 24 3 (some ⟨g11, 0, none⟩) 1 1 [.int .i64 Pf, .int .i64 Mf, .slice Af mf.length kf]] at hS
      refine WL.move rfl rfl ?_
      refine WL.extract rfl rfl rfl ?_
      refine WL.extract rfl rfl rfl ?_
      refine WL.assign rfl rfl ?_
      refine WL.assign rfl rfl ?_
      refine WL.done ?_
      refine W.seq ?_
      obtain ⟨r38, o40, hv⟩ := hv
      obtain ⟨r44, r45, o47, hv⟩ := hv
      have hS0 := hS
      refine W.drawX 13 (fun _ => false) (fun _ => none) [⟨[], [7], true⟩, ⟨[], [7], true⟩, ⟨[], [1], true⟩, ⟨[], [2], true⟩, ⟨[1, 2, 3], [], false⟩, ⟨[], [3], true⟩, ⟨[5], [], false⟩, ⟨[0, 4, 6], [], false⟩, ⟨[7], [], true⟩, ⟨[8], [], true⟩, ⟨[8], [], true⟩, ⟨[9], [], true⟩, ⟨[10], [], true⟩] [[(7, .pointer (some ad20))], [(7, .pointer (some ad20))], [(1, .int .i64 x)], [(2, .int .i64 y)], [], [(3, .pointer (some ⟨g11, 0, none⟩))], [], [], [], [], [], [], []] (fun iQ => [fun v _ => v = .pointer (some ad20), fun v _ => v = .pointer (some ad20), fun v _ => v = .int .i64 x, fun v _ => v = .int .i64 y, fun v _ => v = .int .i64 r38, fun v _ => v = .pointer (some ⟨g11, 0, none⟩), fun v _ => v = .int .i64 Pf, fun v _ => v = .tuple #[.int .i64 r44, .int .i64 r45], fun v _ => v = .tuple #[.int .i64 r44, .int .i64 r45], fun v _ => v = .int .i64 r44, fun v _ => v = .int .i64 r45, fun v _ => v = .int .i64 r44, fun v _ => v = .int .i64 r45].getD iQ (fun _ _ => True)) Try.mixed (by kernel_rfl) ?_ (by kernel_rfl) ?_ ?_
      · refine Vs_monoT _ ?_
        intro VQ hVQ vQ wQ1 wQ2 hQ1 hQ2
        simp only [List.mem_cons, List.not_mem_nil, or_false] at hVQ
        rcases hVQ with rfl | rfl | rfl | rfl | rfl | rfl | rfl | rfl | rfl | rfl | rfl | rfl | rfl
        · exact hQ1
        · exact hQ1
        · exact hQ1
        · exact hQ1
        · exact hQ1
        · exact hQ1
        · exact hQ1
        · exact hQ1
        · exact hQ1
        · exact hQ1
        · exact hQ1
        · exact hQ1
        · exact hQ1
      · refine ⟨⟨rfl, ⟨rfl, trivial⟩, ?_⟩, ⟨rfl, ⟨rfl, trivial⟩, ?_⟩, ⟨rfl, ⟨rfl, trivial⟩, ?_⟩, ⟨rfl, ⟨rfl, trivial⟩, ?_⟩, ⟨rfl, trivial, ?_⟩, ⟨rfl, ⟨rfl, trivial⟩, ?_⟩, ⟨rfl, trivial, ?_⟩, ⟨rfl, trivial, ?_⟩, ⟨rfl, trivial, ?_⟩, ⟨rfl, trivial, ?_⟩, ⟨rfl, trivial, ?_⟩, ⟨rfl, trivial, ?_⟩, ⟨rfl, trivial, ?_⟩, trivial⟩
        · intro w33 hE
          intro RR
          refine WL.move rfl rfl ?_
          exact WL.done ⟨_, rfl, rfl, rfl, (fun h => absurd h (by decide)), (fun j h => by cases h)⟩
        · intro w34 hE
          intro RR
          refine WL.move rfl rfl ?_
          exact WL.done ⟨_, rfl, rfl, rfl, (fun h => absurd h (by decide)), (fun j h => by cases h)⟩
        · intro w35 hE
          intro RR
          refine WL.move rfl rfl ?_
          exact WL.done ⟨_, rfl, rfl, rfl, (fun h => absurd h (by decide)), (fun j h => by cases h)⟩
        · intro w36 hE
          intro RR
          refine WL.move rfl rfl ?_
          exact WL.done ⟨_, rfl, rfl, rfl, (fun h => absurd h (by decide)), (fun j h => by cases h)⟩
        · intro w37 hE
          have hE := hE rfl
          have hS := hS.grow hE
          rintro _ rfl
          rintro _ rfl
          rintro _ rfl
          intro RR
          refine WL.call Try.func32 rfl Try.nm32 rfl rfl (calls_un (ok_Add (GFX.gfr (hS.chunk (i := 0) rfl)) o40)) ?_
          rintro _ w39 ⟨_, hGw39, hRww39, hNww39, r38q, rfl, rfl, he⟩
          subst he
          exact WL.done ⟨_, rfl, hGw39, rfl, (fun h => absurd h (by decide)), (fun j h => by cases h)⟩
        · intro w41 hE
          intro RR
          refine WL.fieldA (off := 0) Try.fla24_0 rfl rfl ?_
          exact WL.done ⟨_, rfl, rfl, rfl, (fun h => absurd h (by decide)), (fun j h => by cases h)⟩
        · intro w42 hE
          have hE := hE rfl
          have hS := hS.grow hE
          rintro _ rfl
          intro RR
          refine WL.load Try.underlying3 rfl rfl (Own.vcells (hS.own (i := 1) rfl) 0 _ rfl) rfl ?_
          exact WL.done ⟨_, rfl, ext_refl _, rfl, (fun h => absurd h (by decide)), (fun j h => by cases h)⟩
        · intro w43 hE
          have hE := hE rfl
          have hS := hS.grow hE
          rintro _ rfl
          rintro _ rfl
          rintro _ rfl
          intro RR
          refine WL.call Try.func43 rfl Try.nm43 rfl rfl (calls_un (ok_Pow (GFX.gfr (hS.chunk (i := 0) rfl)) o47)) ?_
          rintro _ w46 ⟨_, hGw46, hRww46, hNww46, r44q, r45q, rfl, rfl, he⟩
          cases he
          exact WL.done ⟨_, rfl, hGw46, rfl, (fun h => absurd h (by decide)), (fun j h => by cases h)⟩
        · intro w48 hE
          rintro _ rfl
          intro RR
          refine WL.move rfl rfl ?_
          exact WL.done ⟨_, rfl, rfl, rfl, (fun h => absurd h (by decide)), (fun j h => by cases h)⟩
        · intro w49 hE
          rintro _ rfl
          intro RR
          refine WL.extract rfl rfl rfl ?_
          exact WL.done ⟨_, rfl, rfl, rfl, (fun h => absurd h (by decide)), (fun j h => by cases h)⟩
        · intro w50 hE
          rintro _ rfl
          intro RR
          refine WL.extract rfl rfl rfl ?_
          exact WL.done ⟨_, rfl, rfl, rfl, (fun h => absurd h (by decide)), (fun j h => by cases h)⟩
        · intro w51 hE
          rintro _ rfl
          intro RR
          refine WL.assign rfl rfl ?_
          exact WL.done ⟨_, rfl, rfl, rfl, (fun h => absurd h (by decide)), (fun j h => by cases h)⟩
        · intro w52 hE
          rintro _ rfl
          intro RR
          refine WL.assign rfl rfl ?_
          exact WL.done ⟨_, rfl, rfl, rfl, (fun h => absurd h (by decide)), (fun j h => by cases h)⟩
      · intro vals w53 hT hVs hAp hCp
        have hS := hS.grow hT
        have hv0 : vals 0 = _ := hVs 0 (by decide)
        have hv1 : vals 1 = _ := hVs 1 (by decide)
        have hv2 : vals 2 = _ := hVs 2 (by decide)
        have hv3 : vals 3 = _ := hVs 3 (by decide)
        have hv4 : vals 4 = _ := hVs 4 (by decide)
        have hv5 : vals 5 = _ := hVs 5 (by decide)
        have hv6 : vals 6 = _ := hVs 6 (by decide)
        have hv7 : vals 7 = _ := hVs 7 (by decide)
        have hv8 : vals 8 = _ := hVs 8 (by decide)
        have hv9 : vals 9 = _ := hVs 9 (by decide)
        have hv10 : vals 10 = _ := hVs 10 (by decide)
        have hv11 : vals 11 = _ := hVs 11 (by decide)
        have hv12 : vals 12 = _ := hVs 12 (by decide)
        rw [show (List.filterMap (fun i => Option.map (fun t => (t, vals i)) (dstAt _ i)) (List.range _)) = [(45, .pointer (some ad20)), (46, .pointer (some ad20)), (47, .int .i64 x), (48, .int .i64 y), (49, .int .i64 r38), (50, .pointer (some ⟨g11, 0, none⟩)), (51, .int .i64 Pf), (52, .tuple #[.int .i64 r44, .int .i64 r45]), (44, .tuple #[.int .i64 r44, .int .i64 r45]), (53, .int .i64 r44), (54, .int .i64 r45), (13, .int .i64 r44), (14, .int .i64 r45)] from by
          show [(45, vals 0), (46, vals 1), (47, vals 2), (48, vals 3), (49, vals 4), (50, vals 5), (51, vals 6), (52, vals 7), (44, vals 8), (53, vals 9), (54, vals 10), (13, vals 11), (14, vals 12)] = _
          rw [hv0, hv1, hv2, hv3, hv4, hv5, hv6, hv7, hv8, hv9, hv10, hv11, hv12]]
        refine WA.done (by decide +kernel) ?_
        refine W.seq ?_
        refine W.region ?_
        refine WL.move rfl rfl ?_
        refine WL.move rfl rfl ?_
        refine WL.move rfl rfl ?_
        refine SL.call hS (ok_Order (GFX.gfr (hS.chunk (i := 0) rfl)) hv) Try.func24 rfl Try.nm24 rfl rfl ?_
        rintro _ _ w54 ⟨r55, rfl, rfl, hv⟩ hGw54 hS
        change St _ _ _ _ [.ch lo21 hi22 (fun wz => GFX lo21 hi22 wz ad20 F19), .row 24 3 (some ⟨g11, 0, none⟩) 1 1 [.int .i64 Pf, .int .i64 Mf, .slice Af mf.length kf]] at hS
        refine SL.call hS (ok_Pow (GFX.gfr (hS.chunk (i := 0) rfl)) hv) Try.func43 rfl Try.nm43 rfl rfl ?_
        rintro _ _ w56 ⟨r57, r58, rfl, rfl, hv⟩ hGw56 hS
        change St _ _ _ _ [.ch lo21 hi22 (fun wz => GFX lo21 hi22 wz ad20 F19), .row 24 3 (some ⟨g11, 0, none⟩) 1 1 [.int .i64 Pf, .int .i64 Mf, .slice Af mf.length kf]] at hS
        refine WL.move rfl rfl ?_
        refine WL.extract rfl rfl rfl ?_
        refine WL.extract rfl rfl rfl ?_
        refine WL.assign rfl rfl ?_
        refine WL.assign rfl rfl ?_
        refine WL.done ?_
        refine W.seq ?_
        refine W.region ?_
        refine WL.move rfl rfl ?_
        refine WL.move rfl rfl ?_
        refine WL.move rfl rfl ?_
        refine WL.move rfl rfl ?_
        refine SL.call hS (ok_Add (GFX.gfr (hS.chunk (i := 0) rfl)) hv) Try.func32 rfl Try.nm32 rfl rfl ?_
        rintro _ _ w59 ⟨r60, rfl, rfl, hv⟩ hGw59 hS
        change St _ _ _ _ [.ch lo21 hi22 (fun wz => GFX lo21 hi22 wz ad20 F19), .row 24 3 (some ⟨g11, 0, none⟩) 1 1 [.int .i64 Pf, .int .i64 Mf, .slice Af mf.length kf]] at hS
        refine WL.eqlD rfl rfl rfl ?_
        refine WL.move rfl rfl ?_
        by_cases g61 : r44 = r60
        · have hv := hv.1 g61
          rw [decide_eq_true g61]
          refine WL.take rfl ?_
          refine WL.move rfl rfl ?_
          refine WL.take rfl ?_
          refine WL.loadV (cs := [.int .i64 Pf, .int .i64 Mf, .slice Af mf.length kf]) Try.el24 Try.agg24 rfl rfl (Own.vcells (hS.own (i := 1) rfl)) rfl ?_
          refine WL.take rfl ?_
          refine WL.move rfl rfl ?_
          refine WL.take rfl ?_
          refine SL.call hS (ok_rIn (hS.ro hf) hv) Try.func40 rfl Try.nm40 rfl rfl ?_
          rintro _ _ w62 ⟨r63, rfl, rfl, hv⟩ hGw62 hS
          change St _ _ _ _ [.ch lo21 hi22 (fun wz => GFX lo21 hi22 wz ad20 F19), .row 24 3 (some ⟨g11, 0, none⟩) 1 1 [.int .i64 Pf, .int .i64 Mf, .slice Af mf.length kf]] at hS
          refine WL.take rfl ?_
          refine WL.eqlD rfl rfl rfl ?_
          refine WL.pick rfl rfl rfl ?_
          refine WL.assign rfl rfl ?_
          refine WL.done ?_
          refine W.ret ?_
          refine ⟨_, rfl, Fin.nil ?_⟩
          exact ⟨_, hS.ext, (hS.pick [] rfl).rows, News.of (hS.pick [] rfl).rows rfl, ⟨(decide (r57 = r63)), rfl, rfl, hv⟩⟩
        · have hv := hv.2 g61
          rw [decide_eq_false g61]
          refine WL.pass rfl rfl rfl ?_
          refine WL.pass rfl rfl rfl ?_
          refine WL.pass rfl rfl rfl ?_
          refine WL.pass rfl rfl rfl ?_
          refine WL.pass rfl rfl rfl ?_
          refine WL.pick rfl rfl rfl ?_
          refine WL.assign rfl rfl ?_
          refine WL.done ?_
          refine W.ret ?_
          refine ⟨_, rfl, Fin.nil ?_⟩
          exact ⟨_, hS.ext, (hS.pick [] rfl).rows, News.of (hS.pick [] rfl).rows rfl, ⟨false, rfl, rfl, hv⟩⟩

def V_FieldLists (Pf : Int) (Mf : Int) (mf : List Int) (x : Int) (vv0 : List Int) (vv1 : List Int) (Q : Bool → Prop) : Prop :=
  V_alive  (fun r16 => (((!r16) = true) → Q false) ∧ ((!r16) = false → (V_made Pf Mf mf (fun q => match q with | none => V_none Pf Mf mf (fun r35 => Q r35) | some F28 => (((300 : Int) < ((vv0.length : Nat) : Int)) → Q true) ∧ (¬ ((300 : Int) < ((vv0.length : Nat) : Int)) → ((((300 : Int) < ((vv1.length : Nat) : Int)) → Q true) ∧ (¬ ((300 : Int) < ((vv1.length : Nat) : Int)) → (V_Scale F28 x vv0 (fun x39 => ((((x39.length : Nat) : Int) ≠ ((vv0.length : Nat) : Int)) → Q false) ∧ (¬ (((x39.length : Nat) : Int) ≠ ((vv0.length : Nat) : Int)) → (∃ (I50 : Int → Int → Prop) (μ51 : Int → Int → Nat), I50 (0 : Int) (0 : Int) ∧ ∀ (z48 : Int) (z49 : Int), (I50 z48 z49 → (((z49 < ((vv0.length : Nat) : Int)) → ((0 ≤ z49 ∧ z49 < (vv0.length : Nat)) ∧ (V_rAdd Pf Mf mf z48 (gi vv0 z49) (fun r56 => (0 ≤ z49 ∧ z49 < (x39.length : Nat)) ∧ (∃ (r66 : Int), V_rMul Pf Mf mf x (gi vv0 z49) (fun q => q = r66) ∧ ((((gi x39 z49) ≠ r66) → Q false) ∧ (¬ ((gi x39 z49) ≠ r66) → ((I64 (z49 + (1 : Int))) ∧ (I50 r56 (z49 + (1 : Int)) ∧ μ51 r56 (z49 + (1 : Int)) < μ51 z48 z49))))))))) ∧ (¬ (z49 < ((vv0.length : Nat) : Int)) → (∃ (r76 : Int), V_Sum F28 vv0 (fun q => q = r76) ∧ ((r76 = z48) ∧ (∃ (r87 : Int), V_Dot F28 vv0 vv1 (fun q => q = r87) ∧ (∃ (r94 : Int), V_rDot Pf Mf mf vv0 vv1 (fun q => q = r94) ∧ ((r87 = r94) ∧ (∃ (r105 : Int), V_Dot F28 vv1 vv0 (fun q => q = r105) ∧ (∃ (r112 : Int), V_Dot F28 vv0 vv1 (fun q => q = r112) ∧ (Q (decide (r105 = r112))))))))))))))))))))))))
theorem ok_FieldLists {w : World} {Q : Bool → Prop} {Pf : Int} {Mf : Int} {mf : List Int} {x : Int} {vv0 : List Int} {vv1 : List Int} {Bf : Nat} {Af : Option Addr} {nf kf : Nat} (hf : Rd Bf w 1 Af nf kf (is mf)) {Bvv0 : Nat} {Avv0 : Option Addr} {nvv0 kvv0 : Nat} (hvv0 : Rd Bvv0 w 1 Avv0 nvv0 kvv0 (is vv0)) {Bvv1 : Nat} {Avv1 : Option Addr} {nvv1 kvv1 : Nat} (hvv1 : Rd Bvv1 w 1 Avv1 nvv1 kvv1 (is vv1)) (hv : V_FieldLists Pf Mf mf x vv0 vv1 Q) :
    Calls Try.prog 12 #[.agg #[.int .i64 Pf, .int .i64 Mf, .slice Af nf kf], .int .i64 x, .agg #[.slice Avv0 nvv0 kvv0, .slice Avv1 nvv1 kvv1]] w fun e w' => ∃ v Qr, e = .returned v ∧ w.grownBy w' none ∧ Rows w.heap.size none w' Qr ∧ News w.heap.size Qr ∧ ∃ (r0 : Bool), v = .bool r0 ∧ Qr = [] ∧ Q r0 := by
  have hnf := hf.ilen
  subst hnf
  have hnvv0 := hvv0.ilen
  subst hnvv0
  have hnvv1 := hvv1.ilen
  subst hnvv1
  refine calls_swap ?_
  refine calls_of_W (vs := [.agg #[.int .i64 Pf, .int .i64 Mf, .slice Af mf.length kf], .int .i64 x, .agg #[.slice Avv0 vv0.length kvv0, .slice Avv1 vv1.length kvv1]]) [6] Try.func12 rfl rfl rfl rfl ?_
  have hS := St.start w
  unfold V_FieldLists at hv
  refine W.seq ?_
  refine W.region ?_
  refine SL.box (z := 3) (cs := [.int .i64 Pf, .int .i64 Mf, .slice Af mf.length kf]) hS rfl rfl rfl rfl ?_
  intro g11 w12 hS
  refine SL.box (z := 2) (cs := [.slice Avv0 vv0.length kvv0, .slice Avv1 vv1.length kvv1]) hS rfl rfl rfl rfl ?_
  intro g13 w14 hS
  refine WL.assign rfl rfl ?_
  refine WL.done ?_
  refine W.seq ?_
  refine W.seq ?_
  refine W.region ?_
  refine SL.call hS (ok_alive  hv) Try.func17 rfl Try.nm17 rfl rfl ?_
  rintro _ _ w15 ⟨r16, rfl, rfl, hv⟩ hGw15 hS
  change St _ _ _ _ [.row 55 2 (some ⟨g13, 0, none⟩) 1 1 [.slice Avv0 vv0.length kvv0, .slice Avv1 vv1.length kvv1], .row 24 3 (some ⟨g11, 0, none⟩) 1 1 [.int .i64 Pf, .int .i64 Mf, .slice Af mf.length kf]] at hS
  refine WL.not rfl rfl ?_
  refine WL.done ?_
  refine W.cond2 rfl (fun c17 => ?_) (fun c17 => ?_)
  · have hv := hv.1 (c17)
    refine W.seq ?_
    refine W.region ?_
    refine WL.assign rfl rfl ?_
    refine WL.done ?_
    refine W.ret ?_
    refine ⟨_, rfl, Fin.nil ?_⟩
    exact ⟨_, hS.ext, (hS.pick [] rfl).rows, News.of (hS.pick [] rfl).rows rfl, ⟨false, rfl, rfl, hv⟩⟩
  · have hv := hv.2 (c17)
    refine W.skip ?_
    refine W.seq ?_
    have hS0 := hS
    refine W.drawX 6 (fun _ => false) (fun _ => none) [⟨[], [5], true⟩, ⟨[0], [], false⟩, ⟨[], [5], true⟩, ⟨[2], [], false⟩, ⟨[1], [], true⟩, ⟨[3], [], true⟩] [[(5, .pointer (some ⟨g13, 0, none⟩))], [], [(5, .pointer (some ⟨g13, 0, none⟩))], [], [], []] (fun iQ => [fun v _ => v = .pointer (some ⟨g13, 0, none⟩), fun v _ => v = .slice Avv0 vv0.length kvv0, fun v _ => v = .pointer (some ((⟨g13, 0, none⟩ : Addr).add 1)), fun v _ => v = .slice Avv1 vv1.length kvv1, fun v _ => v = .slice Avv0 vv0.length kvv0, fun v _ => v = .slice Avv1 vv1.length kvv1].getD iQ (fun _ _ => True)) Try.mixed (by kernel_rfl) ?_ (by kernel_rfl) ?_ ?_
    · refine Vs_monoT _ ?_
      intro VQ hVQ vQ wQ1 wQ2 hQ1 hQ2
      simp only [List.mem_cons, List.not_mem_nil, or_false] at hVQ
      rcases hVQ with rfl | rfl | rfl | rfl | rfl | rfl
      · exact hQ1
      · exact hQ1
      · exact hQ1
      · exact hQ1
      · exact hQ1
      · exact hQ1
    · refine ⟨⟨rfl, ⟨rfl, trivial⟩, ?_⟩, ⟨rfl, trivial, ?_⟩, ⟨rfl, ⟨rfl, trivial⟩, ?_⟩, ⟨rfl, trivial, ?_⟩, ⟨rfl, trivial, ?_⟩, ⟨rfl, trivial, ?_⟩, trivial⟩
      · intro w18 hE
        intro RR
        refine WL.indexP 0 Try.arr55 rfl rfl rfl (by decide) rfl rfl ?_
        exact WL.done ⟨_, rfl, rfl, rfl, (fun h => absurd h (by decide)), (fun j h => by cases h)⟩
      · intro w19 hE
        have hE := hE rfl
        have hS := hS.grow hE
        rintro _ rfl
        intro RR
        refine WL.load Try.underlying22 rfl rfl (Own.vcells (hS.own (i := 0) rfl) 0 _ rfl) rfl ?_
        exact WL.done ⟨_, rfl, ext_refl _, rfl, (fun h => absurd h (by decide)), (fun j h => by cases h)⟩
      · intro w20 hE
        intro RR
        refine WL.indexP 1 Try.arr55 rfl rfl rfl (by decide) rfl rfl ?_
        exact WL.done ⟨_, rfl, rfl, rfl, (fun h => absurd h (by decide)), (fun j h => by cases h)⟩
      · intro w21 hE
        have hE := hE rfl
        have hS := hS.grow hE
        rintro _ rfl
        intro RR
        refine WL.load Try.underlying22 rfl rfl (Own.vcells (hS.own (i := 0) rfl) 1 _ rfl) rfl ?_
        exact WL.done ⟨_, rfl, ext_refl _, rfl, (fun h => absurd h (by decide)), (fun j h => by cases h)⟩
      · intro w22 hE
        rintro _ rfl
        intro RR
        refine WL.assign rfl rfl ?_
        exact WL.done ⟨_, rfl, rfl, rfl, (fun h => absurd h (by decide)), (fun j h => by cases h)⟩
      · intro w23 hE
        rintro _ rfl
        intro RR
        refine WL.assign rfl rfl ?_
        exact WL.done ⟨_, rfl, rfl, rfl, (fun h => absurd h (by decide)), (fun j h => by cases h)⟩
    · intro vals w24 hT hVs hAp hCp
      have hS := hS.grow hT
      have hv0 : vals 0 = _ := hVs 0 (by decide)
      have hv1 : vals 1 = _ := hVs 1 (by decide)
      have hv2 : vals 2 = _ := hVs 2 (by decide)
      have hv3 : vals 3 = _ := hVs 3 (by decide)
      have hv4 : vals 4 = _ := hVs 4 (by decide)
      have hv5 : vals 5 = _ := hVs 5 (by decide)
      rw [show (List.filterMap (fun i => Option.map (fun t => (t, vals i)) (dstAt _ i)) (List.range _)) = [(17, .pointer (some ⟨g13, 0, none⟩)), (18, .slice Avv0 vv0.length kvv0), (19, .pointer (some ((⟨g13, 0, none⟩ : Addr).add 1))), (20, .slice Avv1 vv1.length kvv1), (7, .slice Avv0 vv0.length kvv0), (8, .slice Avv1 vv1.length kvv1)] from by
        show [(17, vals 0), (18, vals 1), (19, vals 2), (20, vals 3), (7, vals 4), (8, vals 5)] = _
        rw [hv0, hv1, hv2, hv3, hv4, hv5]]
      refine WA.done (by decide +kernel) ?_
      refine W.seq ?_
      refine W.region ?_
      refine WL.loadV (cs := [.int .i64 Pf, .int .i64 Mf, .slice Af mf.length kf]) Try.el24 Try.agg24 rfl rfl (Own.vcells (hS.own (i := 1) rfl)) rfl ?_
      refine SL.call hS (ok_made (hS.ro hf) hv) Try.func30 rfl Try.nm30 rfl rfl ?_
      rintro _ _ w26 ⟨o, hv, hK⟩ hGw26 hS
      cases o with
      | none =>
        obtain ⟨⟨pv33, rfl⟩, rfl⟩ := hK
        change St _ _ _ _ [.row 55 2 (some ⟨g13, 0, none⟩) 1 1 [.slice Avv0 vv0.length kvv0, .slice Avv1 vv1.length kvv1], .row 24 3 (some ⟨g11, 0, none⟩) 1 1 [.int .i64 Pf, .int .i64 Mf, .slice Af mf.length kf]] at hS
        refine WL.move rfl rfl ?_
        refine WL.extract rfl rfl rfl ?_
        refine WL.extract rfl rfl rfl ?_
        refine WL.assign rfl rfl ?_
        refine WL.assign rfl rfl ?_
        refine WL.done ?_
        refine W.seq ?_
        refine W.seq ?_
        refine W.region ?_
        refine WL.move rfl rfl ?_
        refine WL.not rfl rfl ?_
        refine WL.move rfl rfl ?_
        refine WL.pass rfl rfl rfl ?_
        refine WL.pass rfl rfl rfl ?_
        refine WL.pass rfl rfl rfl ?_
        refine WL.pick rfl rfl rfl ?_
        refine WL.move rfl rfl ?_
        refine WL.pass rfl rfl rfl ?_
        refine WL.pass rfl rfl rfl ?_
        refine WL.pass rfl rfl rfl ?_
        refine WL.pick rfl rfl rfl ?_
        refine WL.done ?_
        refine W.condT rfl ?_
        refine W.seq ?_
        refine W.region ?_
        refine WL.move rfl rfl ?_
        refine WL.move rfl rfl ?_
        refine WL.take rfl ?_
        refine WL.loadV (cs := [.int .i64 Pf, .int .i64 Mf, .slice Af mf.length kf]) Try.el24 Try.agg24 rfl rfl (Own.vcells (hS.own (i := 1) rfl)) rfl ?_
        refine WL.take rfl ?_
        refine SL.call hS (ok_none (hS.ro hf) hv) Try.func31 rfl Try.nm31 rfl rfl ?_
        rintro _ _ w34 ⟨r35, rfl, rfl, hv⟩ hGw34 hS
        change St _ _ _ _ [.row 55 2 (some ⟨g13, 0, none⟩) 1 1 [.slice Avv0 vv0.length kvv0, .slice Avv1 vv1.length kvv1], .row 24 3 (some ⟨g11, 0, none⟩) 1 1 [.int .i64 Pf, .int .i64 Mf, .slice Af mf.length kf]] at hS
        refine WL.pick rfl rfl rfl ?_
        refine WL.assign rfl rfl ?_
        refine WL.done ?_
        refine W.ret ?_
        refine ⟨_, rfl, Fin.nil ?_⟩
        exact ⟨_, hS.ext, (hS.pick [] rfl).rows, News.of (hS.pick [] rfl).rows rfl, ⟨r35, rfl, rfl, hv⟩⟩
      | some F28 =>
        obtain ⟨ad29, lo30, hi31, rfl, rfl⟩ := hK
        change St _ _ _ _ [.ch lo30 hi31 (fun wz => GFX lo30 hi31 wz ad29 F28), .row 55 2 (some ⟨g13, 0, none⟩) 1 1 [.slice Avv0 vv0.length kvv0, .slice Avv1 vv1.length kvv1], .row 24 3 (some ⟨g11, 0, none⟩) 1 1 [.int .i64 Pf, .int .i64 Mf, .slice Af mf.length kf]] at hS
        refine WL.move rfl rfl ?_
        refine WL.extract rfl rfl rfl ?_
        refine WL.extract rfl rfl rfl ?_
        refine WL.assign rfl rfl ?_
        refine WL.assign rfl rfl ?_
        refine WL.done ?_
        refine W.seq ?_
        refine W.seq ?_
        refine W.region ?_
        refine WL.move rfl rfl ?_
        refine WL.not rfl rfl ?_
        refine WL.move rfl rfl ?_
        refine WL.take rfl ?_
        refine WL.move rfl rfl ?_
        refine WL.take rfl ?_
        refine WL.len Try.underlying22 rfl rfl ?_
        refine WL.take rfl ?_
        refine WL.gtrD rfl rfl rfl ?_
        refine WL.pick rfl rfl rfl ?_
        refine WL.move rfl rfl ?_
        by_cases g36 : (300 : Int) < ((vv0.length : Nat) : Int)
        · have hv := hv.1 g36
          rw [decide_eq_true g36]
          refine WL.pass rfl rfl rfl ?_
          refine WL.pass rfl rfl rfl ?_
          refine WL.pass rfl rfl rfl ?_
          refine WL.pick rfl rfl rfl ?_
          refine WL.done ?_
          refine W.condT rfl ?_
          refine W.seq ?_
          refine W.region ?_
          refine WL.move rfl rfl ?_
          refine WL.move rfl rfl ?_
          refine WL.pass rfl rfl rfl ?_
          refine WL.pass rfl rfl rfl ?_
          refine WL.pick rfl rfl rfl ?_
          refine WL.assign rfl rfl ?_
          refine WL.done ?_
          refine W.ret ?_
          refine ⟨_, rfl, Fin.nil ?_⟩
          exact ⟨_, hS.ext, (hS.pick [] rfl).rows, News.of (hS.pick [] rfl).rows rfl, ⟨true, rfl, rfl, hv⟩⟩
        · have hv := hv.2 g36
          rw [decide_eq_false g36]
          refine WL.take rfl ?_
          refine WL.move rfl rfl ?_
          refine WL.take rfl ?_
          refine WL.len Try.underlying22 rfl rfl ?_
          refine WL.take rfl ?_
          refine WL.gtrD rfl rfl rfl ?_
          refine WL.pick rfl rfl rfl ?_
          refine WL.done ?_
          refine W.cond2 rfl (fun c37 => ?_) (fun c37 => ?_)
          · have hv := hv.1 (of_decide_eq_true c37)
            refine W.seq ?_
            refine W.region ?_
            refine WL.move rfl rfl ?_
            refine WL.move rfl rfl ?_
            refine WL.pass rfl rfl rfl ?_
            refine WL.pass rfl rfl rfl ?_
            refine WL.pick rfl rfl rfl ?_
            refine WL.assign rfl rfl ?_
            refine WL.done ?_
            refine W.ret ?_
            refine ⟨_, rfl, Fin.nil ?_⟩
            exact ⟨_, hS.ext, (hS.pick [] rfl).rows, News.of (hS.pick [] rfl).rows rfl, ⟨true, rfl, rfl, hv⟩⟩
          · have hv := hv.2 (of_decide_eq_false c37)
            refine W.skip ?_
            refine W.seq ?_
            refine W.region ?_
            refine WL.assign rfl rfl ?_
            refine WL.done ?_
            refine W.seq ?_
            refine W.region ?_
            refine WL.move rfl rfl ?_
            refine WL.move rfl rfl ?_
            refine WL.move rfl rfl ?_
            refine SL.call hS (ok_Scale (GFX.gfr (hS.chunk (i := 0) rfl)) (hS.ro hvv0) hv) Try.func45 rfl Try.nm45 rfl rfl ?_
            rintro _ _ w38 ⟨x39, A40, k41, rfl, rfl, hv⟩ hGw38 hS
            change St _ _ _ _ [.row 3 1 A40 x39.length k41 (is x39), .ch lo30 hi31 (fun wz => GFX lo30 hi31 wz ad29 F28), .row 55 2 (some ⟨g13, 0, none⟩) 1 1 [.slice Avv0 vv0.length kvv0, .slice Avv1 vv1.length kvv1], .row 24 3 (some ⟨g11, 0, none⟩) 1 1 [.int .i64 Pf, .int .i64 Mf, .slice Af mf.length kf]] at hS
            refine WL.assign rfl rfl ?_
            refine WL.done ?_
            refine W.seq ?_
            refine W.seq ?_
            refine W.region ?_
            refine WL.move rfl rfl ?_
            refine WL.len Try.underlying22 rfl rfl ?_
            refine WL.move rfl rfl ?_
            refine WL.len Try.underlying22 rfl rfl ?_
            refine WL.neqD rfl rfl rfl ?_
            refine WL.done ?_
            refine W.cond2 rfl (fun c43 => ?_) (fun c43 => ?_)
            · have hv := hv.1 (of_decide_eq_true c43)
              refine W.seq ?_
              refine W.region ?_
              refine WL.assign rfl rfl ?_
              refine WL.done ?_
              refine W.ret ?_
              refine ⟨_, rfl, Fin.nil ?_⟩
              exact ⟨_, hS.ext, (hS.pick [] rfl).rows, News.of (hS.pick [] rfl).rows rfl, ⟨false, rfl, rfl, hv⟩⟩
            · have hv := hv.2 (of_decide_eq_false c43)
              refine W.skip ?_
              refine W.seq ?_
              refine W.seq ?_
              refine W.region ?_
              refine WL.move rfl rfl ?_
              refine WL.len Try.underlying22 rfl rfl ?_
              refine WL.move rfl rfl ?_
              refine WL.done ?_
              refine W.block ?_
              obtain ⟨I50, μ51, hv, hk119⟩ := hv
              change St _ _ _ _ [.row 3 1 A40 x39.length k41 (is x39), .ch lo30 hi31 (fun wz => GFX lo30 hi31 wz ad29 F28), .row 55 2 (some ⟨g13, 0, none⟩) 1 1 [.slice Avv0 vv0.length kvv0, .slice Avv1 vv1.length kvv1], .row 24 3 (some ⟨g11, 0, none⟩) 1 1 [.int .i64 Pf, .int .i64 Mf, .slice Af mf.length kf]] at hS
              refine W.loop (σ := Int × Int) (fun q w1 => match q with | (z48, z49) => I50 z48 z49 ∧ St TT w none w1 [.row 3 1 A40 x39.length k41 (is x39), .ch lo30 hi31 (fun wz => GFX lo30 hi31 wz ad29 F28), .row 55 2 (some ⟨g13, 0, none⟩) 1 1 [.slice Avv0 vv0.length kvv0, .slice Avv1 vv1.length kvv1], .row 24 3 (some ⟨g11, 0, none⟩) 1 1 [.int .i64 Pf, .int .i64 Mf, .slice Af mf.length kf]]) (fun q => match q with | (z48, z49) => [(1, .int .i64 x), (3, .pointer (some ⟨g11, 0, none⟩)), (6, .bool false), (7, .slice Avv0 vv0.length kvv0), (8, .slice Avv1 vv1.length kvv1), (9, .pointer (some ad29)), (11, .int .i64 z48), (12, .slice A40 x39.length k41), (52, .slice Avv0 vv0.length kvv0), (53, .int .i64 ((vv0.length : Nat) : Int)), (54, .int .i64 z49)]) (fun q => match q with | (z48, z49) => μ51 z48 z49) ((0 : Int), (0 : Int)) ⟨hv, hS⟩ ⟨rfl, rfl, rfl, rfl, rfl, rfl, rfl, rfl, rfl, rfl, rfl, trivial⟩ ?_
              rintro ⟨z48, z49⟩ w52 ⟨hv, hS⟩
              have hv := hk119 z48 z49 hv
              refine W.seq ?_
              refine W.region ?_
              refine WL.lssD rfl rfl rfl ?_
              refine WL.done ?_
              refine W.seq ?_
              refine W.cond2 rfl (fun c53 => ?_) (fun c53 => ?_)
              · have hv := hv.1 (of_decide_eq_true c53)
                refine W.skip ?_
                refine W.seq ?_
                refine W.block ?_
                refine W.seq ?_
                refine W.region ?_
                refine WL.move rfl rfl ?_
                obtain ⟨o54, hv⟩ := hv
                refine SL.index Try.underlying22 Try.el3 (hS.ro hvv0) rfl rfl o54 rfl ?_
                refine WL.load Try.underlying3 rfl rfl (Rd.gi (hS.ro hvv0) o54) rfl ?_
                refine WL.assign rfl rfl ?_
                refine WL.assign rfl rfl ?_
                refine WL.done ?_
                refine W.seq ?_
                refine W.region ?_
                refine WL.loadV (cs := [.int .i64 Pf, .int .i64 Mf, .slice Af mf.length kf]) Try.el24 Try.agg24 rfl rfl (Own.vcells (hS.own (i := 3) rfl)) rfl ?_
                refine WL.move rfl rfl ?_
                refine WL.move rfl rfl ?_
                refine SL.call hS (ok_rAdd (hS.ro hf) hv) Try.func33 rfl Try.nm33 rfl rfl ?_
                rintro _ _ w55 ⟨r56, rfl, rfl, hv⟩ hGw55 hS
                change St _ _ _ _ [.row 3 1 A40 x39.length k41 (is x39), .ch lo30 hi31 (fun wz => GFX lo30 hi31 wz ad29 F28), .row 55 2 (some ⟨g13, 0, none⟩) 1 1 [.slice Avv0 vv0.length kvv0, .slice Avv1 vv1.length kvv1], .row 24 3 (some ⟨g11, 0, none⟩) 1 1 [.int .i64 Pf, .int .i64 Mf, .slice Af mf.length kf]] at hS
                refine WL.assign rfl rfl ?_
                refine WL.done ?_
                refine W.seq ?_
                obtain ⟨o60, hv⟩ := hv
                obtain ⟨r66, o68, hv⟩ := hv
                have hS0 := hS
                refine W.drawX 9 (fun _ => false) (fun _ => none) [⟨[], [12], true⟩, ⟨[], [13], true⟩, ⟨[0, 1], [], true⟩, ⟨[2], [], false⟩, ⟨[], [3], false⟩, ⟨[], [1], true⟩, ⟨[], [14], true⟩, ⟨[4, 5, 6], [], false⟩, ⟨[3, 7], [], true⟩] [[(12, .slice A40 x39.length k41)], [(13, .int .i64 z49)], [], [], [(3, .pointer (some ⟨g11, 0, none⟩))], [(1, .int .i64 x)], [(14, .int .i64 (gi vv0 z49))], [], []] (fun iQ => [fun v _ => v = .slice A40 x39.length k41, fun v _ => v = .int .i64 z49, fun v _ => v = .pointer (some ((adOf A40).add z49.toNat)), fun v _ => v = .int .i64 (gi x39 z49), fun v _ => v = .agg #[.int .i64 Pf, .int .i64 Mf, .slice Af mf.length kf], fun v _ => v = .int .i64 x, fun v _ => v = .int .i64 (gi vv0 z49), fun v _ => v = .int .i64 r66, fun v _ => v = .bool (decide ((gi x39 z49) ≠ r66))].getD iQ (fun _ _ => True)) Try.mixed (by kernel_rfl) ?_ (by kernel_rfl) ?_ ?_
                · refine Vs_monoT _ ?_
                  intro VQ hVQ vQ wQ1 wQ2 hQ1 hQ2
                  simp only [List.mem_cons, List.not_mem_nil, or_false] at hVQ
                  rcases hVQ with rfl | rfl | rfl | rfl | rfl | rfl | rfl | rfl | rfl
                  · exact hQ1
                  · exact hQ1
                  · exact hQ1
                  · exact hQ1
                  · exact hQ1
                  · exact hQ1
                  · exact hQ1
                  · exact hQ1
                  · exact hQ1
                · refine ⟨⟨rfl, ⟨rfl, trivial⟩, ?_⟩, ⟨rfl, ⟨rfl, trivial⟩, ?_⟩, ⟨rfl, trivial, ?_⟩, ⟨rfl, trivial, ?_⟩, ⟨rfl, ⟨rfl, trivial⟩, ?_⟩, ⟨rfl, ⟨rfl, trivial⟩, ?_⟩, ⟨rfl, ⟨rfl, trivial⟩, ?_⟩, ⟨rfl, trivial, ?_⟩, ⟨rfl, trivial, ?_⟩, trivial⟩
                  · intro w57 hE
                    intro RR
                    refine WL.move rfl rfl ?_
                    exact WL.done ⟨_, rfl, rfl, rfl, (fun h => absurd h (by decide)), (fun j h => by cases h)⟩
                  · intro w58 hE
                    intro RR
                    refine WL.move rfl rfl ?_
                    exact WL.done ⟨_, rfl, rfl, rfl, (fun h => absurd h (by decide)), (fun j h => by cases h)⟩
                  · intro w59 hE
                    rintro _ rfl
                    rintro _ rfl
                    intro RR
                    refine SL.index Try.underlying22 Try.el3 (hS.rd (i := 0) rfl) rfl rfl o60 rfl ?_
                    exact WL.done ⟨_, rfl, rfl, rfl, (fun h => absurd h (by decide)), (fun j h => by cases h)⟩
                  · intro w61 hE
                    have hE := hE rfl
                    have hS := hS.grow hE
                    rintro _ rfl
                    intro RR
                    refine WL.load Try.underlying3 rfl rfl (Rd.gi (hS.rd (i := 0) rfl) o60) rfl ?_
                    exact WL.done ⟨_, rfl, ext_refl _, rfl, (fun h => absurd h (by decide)), (fun j h => by cases h)⟩
                  · intro w62 hE
                    have hE := hE rfl
                    have hS := hS.grow hE
                    intro RR
                    refine WL.loadV (cs := [.int .i64 Pf, .int .i64 Mf, .slice Af mf.length kf]) Try.el24 Try.agg24 rfl rfl (Own.vcells (hS.own (i := 3) rfl)) rfl ?_
                    exact WL.done ⟨_, rfl, ext_refl _, rfl, (fun h => absurd h (by decide)), (fun j h => by cases h)⟩
                  · intro w63 hE
                    intro RR
                    refine WL.move rfl rfl ?_
                    exact WL.done ⟨_, rfl, rfl, rfl, (fun h => absurd h (by decide)), (fun j h => by cases h)⟩
                  · intro w64 hE
                    intro RR
                    refine WL.move rfl rfl ?_
                    exact WL.done ⟨_, rfl, rfl, rfl, (fun h => absurd h (by decide)), (fun j h => by cases h)⟩
                  · intro w65 hE
                    have hE := hE rfl
                    have hS := hS.grow hE
                    rintro _ rfl
                    rintro _ rfl
                    rintro _ rfl
                    intro RR
                    refine WL.call Try.func39 rfl Try.nm39 rfl rfl (calls_un (ok_rMul (hS.ro hf) o68)) ?_
                    rintro _ w67 ⟨_, hGw67, hRww67, hNww67, r66q, rfl, rfl, he⟩
                    subst he
                    exact WL.done ⟨_, rfl, hGw67, rfl, (fun h => absurd h (by decide)), (fun j h => by cases h)⟩
                  · intro w69 hE
                    rintro _ rfl
                    rintro _ rfl
                    intro RR
                    refine WL.neqD rfl rfl rfl ?_
                    exact WL.done ⟨_, rfl, rfl, rfl, (fun h => absurd h (by decide)), (fun j h => by cases h)⟩
                · intro vals w70 hT hVs hAp hCp
                  have hS := hS.grow hT
                  have hv0 : vals 0 = _ := hVs 0 (by decide)
                  have hv1 : vals 1 = _ := hVs 1 (by decide)
                  have hv2 : vals 2 = _ := hVs 2 (by decide)
                  have hv3 : vals 3 = _ := hVs 3 (by decide)
                  have hv4 : vals 4 = _ := hVs 4 (by decide)
                  have hv5 : vals 5 = _ := hVs 5 (by decide)
                  have hv6 : vals 6 = _ := hVs 6 (by decide)
                  have hv7 : vals 7 = _ := hVs 7 (by decide)
                  have hv8 : vals 8 = _ := hVs 8 (by decide)
                  rw [show (List.filterMap (fun i => Option.map (fun t => (t, vals i)) (dstAt _ i)) (List.range _)) = [(63, .slice A40 x39.length k41), (64, .int .i64 z49), (65, .pointer (some ((adOf A40).add z49.toNat))), (66, .int .i64 (gi x39 z49)), (67, .agg #[.int .i64 Pf, .int .i64 Mf, .slice Af mf.length kf]), (68, .int .i64 x), (69, .int .i64 (gi vv0 z49)), (70, .int .i64 r66), (71, .bool (decide ((gi x39 z49) ≠ r66)))] from by
                    show [(63, vals 0), (64, vals 1), (65, vals 2), (66, vals 3), (67, vals 4), (68, vals 5), (69, vals 6), (70, vals 7), (71, vals 8)] = _
                    rw [hv0, hv1, hv2, hv3, hv4, hv5, hv6, hv7, hv8]]
                  refine WA.done (by decide +kernel) ?_
                  refine W.cond2 rfl (fun c71 => ?_) (fun c71 => ?_)
                  · have hv := hv.1 (of_decide_eq_true c71)
                    refine W.seq ?_
                    refine W.region ?_
                    refine WL.assign rfl rfl ?_
                    refine WL.done ?_
                    refine W.ret ?_
                    refine ⟨_, rfl, Fin.nil ?_⟩
                    exact ⟨_, hS.ext, (hS.pick [] rfl).rows, News.of (hS.pick [] rfl).rows rfl, ⟨false, rfl, rfl, hv⟩⟩
                  · have hv := hv.2 (of_decide_eq_false c71)
                    refine W.skip ?_
                    refine W.region ?_
                    obtain ⟨o72, hv⟩ := hv
                    refine WL.add (r := (z49 + (1 : Int))) rfl rfl (wr o72) rfl ?_
                    refine WL.move rfl rfl ?_
                    refine WL.done ?_
                    change St _ _ _ _ [.row 3 1 A40 x39.length k41 (is x39), .ch lo30 hi31 (fun wz => GFX lo30 hi31 wz ad29 F28), .row 55 2 (some ⟨g13, 0, none⟩) 1 1 [.slice Avv0 vv0.length kvv0, .slice Avv1 vv1.length kvv1], .row 24 3 (some ⟨g11, 0, none⟩) 1 1 [.int .i64 Pf, .int .i64 Mf, .slice Af mf.length kf]] at hS
                    exact ⟨(r56, (z49 + (1 : Int))), ⟨rfl, rfl, rfl, rfl, rfl, rfl, rfl, rfl, rfl, rfl, rfl, trivial⟩, hv.2, rfl, hv.1, hS⟩
              · have hv := hv.2 (of_decide_eq_false c53)
                refine W.exit ?_
                refine W.seq ?_
                obtain ⟨r76, o78, hv⟩ := hv
                obtain ⟨o81, hv⟩ := hv
                obtain ⟨r87, o89, hv⟩ := hv
                obtain ⟨r94, o96, hv⟩ := hv
                obtain ⟨o98, hv⟩ := hv
                obtain ⟨r105, o107, hv⟩ := hv
                obtain ⟨r112, o114, hv⟩ := hv
                have hS0 := hS
                refine W.drawX 28 (fun _ => false) (fun _ => none) [⟨[], [9], true⟩, ⟨[], [7], true⟩, ⟨[0, 1], [], false⟩, ⟨[], [11], true⟩, ⟨[2, 3], [], true⟩, ⟨[4], [], true⟩, ⟨[5], [9], true⟩, ⟨[5], [7], true⟩, ⟨[5], [8], true⟩, ⟨[5, 6, 7, 8], [], false⟩, ⟨[5], [3], false⟩, ⟨[5], [7], true⟩, ⟨[5], [8], true⟩, ⟨[5, 10, 11, 12], [], false⟩, ⟨[5, 9, 13], [], true⟩, ⟨[5, 14], [], true⟩, ⟨[15], [], true⟩, ⟨[16], [9], true⟩, ⟨[16], [8], true⟩, ⟨[16], [7], true⟩, ⟨[16, 17, 18, 19], [], false⟩, ⟨[16], [9], true⟩, ⟨[16], [7], true⟩, ⟨[16], [8], true⟩, ⟨[16, 21, 22, 23], [], false⟩, ⟨[16, 20, 24], [], true⟩, ⟨[16, 25], [], true⟩, ⟨[26], [], true⟩] [[(9, .pointer (some ad29))], [(7, .slice Avv0 vv0.length kvv0)], [], [(11, .int .i64 z48)], [], [], [(9, .pointer (some ad29))], [(7, .slice Avv0 vv0.length kvv0)], [(8, .slice Avv1 vv1.length kvv1)], [], [(3, .pointer (some ⟨g11, 0, none⟩))], [(7, .slice Avv0 vv0.length kvv0)], [(8, .slice Avv1 vv1.length kvv1)], [], [], [], [], [(9, .pointer (some ad29))], [(8, .slice Avv1 vv1.length kvv1)], [(7, .slice Avv0 vv0.length kvv0)], [], [(9, .pointer (some ad29))], [(7, .slice Avv0 vv0.length kvv0)], [(8, .slice Avv1 vv1.length kvv1)], [], [], [], []] (fun iQ => [fun v _ => v = .pointer (some ad29), fun v _ => v = .slice Avv0 vv0.length kvv0, fun v _ => v = .int .i64 r76, fun v _ => v = .int .i64 z48, fun v _ => v = .bool true, fun v _ => v = .bool true, fun v _ => v = .pointer (some ad29), fun v _ => v = .slice Avv0 vv0.length kvv0, fun v _ => v = .slice Avv1 vv1.length kvv1, fun v _ => v = .int .i64 r87, fun v _ => v = .agg #[.int .i64 Pf, .int .i64 Mf, .slice Af mf.length kf], fun v _ => v = .slice Avv0 vv0.length kvv0, fun v _ => v = .slice Avv1 vv1.length kvv1, fun v _ => v = .int .i64 r94, fun v _ => v = .bool true, fun v _ => v = .bool true, fun v _ => v = .bool true, fun v _ => v = .pointer (some ad29), fun v _ => v = .slice Avv1 vv1.length kvv1, fun v _ => v = .slice Avv0 vv0.length kvv0, fun v _ => v = .int .i64 r105, fun v _ => v = .pointer (some ad29), fun v _ => v = .slice Avv0 vv0.length kvv0, fun v _ => v = .slice Avv1 vv1.length kvv1, fun v _ => v = .int .i64 r112, fun v _ => v = .bool (decide (r105 = r112)), fun v _ => v = .bool (decide (r105 = r112)), fun v _ => v = .bool (decide (r105 = r112))].getD iQ (fun _ _ => True)) Try.mixed (by kernel_rfl) ?_ (by kernel_rfl) ?_ ?_
                · refine Vs_monoT _ ?_
                  intro VQ hVQ vQ wQ1 wQ2 hQ1 hQ2
                  simp only [List.mem_cons, List.not_mem_nil, or_false] at hVQ
                  rcases hVQ with rfl | rfl | rfl | rfl | rfl | rfl | rfl | rfl | rfl | rfl | rfl | rfl | rfl | rfl | rfl | rfl | rfl | rfl | rfl | rfl | rfl | rfl | rfl | rfl | rfl | rfl | rfl | rfl
                  · exact hQ1
                  · exact hQ1
                  · exact hQ1
                  · exact hQ1
                  · exact hQ1
                  · exact hQ1
                  · exact hQ1
                  · exact hQ1
                  · exact hQ1
                  · exact hQ1
                  · exact hQ1
                  · exact hQ1
                  · exact hQ1
                  · exact hQ1
                  · exact hQ1
                  · exact hQ1
                  · exact hQ1
                  · exact hQ1
                  · exact hQ1
                  · exact hQ1
                  · exact hQ1
                  · exact hQ1
                  · exact hQ1
                  · exact hQ1
                  · exact hQ1
                  · exact hQ1
                  · exact hQ1
                  · exact hQ1
                · refine ⟨⟨rfl, ⟨rfl, trivial⟩, ?_⟩, ⟨rfl, ⟨rfl, trivial⟩, ?_⟩, ⟨rfl, trivial, ?_⟩, ⟨rfl, ⟨rfl, trivial⟩, ?_⟩, ⟨rfl, trivial, ?_⟩, ⟨rfl, trivial, ?_⟩, ⟨rfl, ⟨rfl, trivial⟩, ?_⟩, ⟨rfl, ⟨rfl, trivial⟩, ?_⟩, ⟨rfl, ⟨rfl, trivial⟩, ?_⟩, ⟨rfl, trivial, ?_⟩, ⟨rfl, ⟨rfl, trivial⟩, ?_⟩, ⟨rfl, ⟨rfl, trivial⟩, ?_⟩, ⟨rfl, ⟨rfl, trivial⟩, ?_⟩, ⟨rfl, trivial, ?_⟩, ⟨rfl, trivial, ?_⟩, ⟨rfl, trivial, ?_⟩, ⟨rfl, trivial, ?_⟩, ⟨rfl, ⟨rfl, trivial⟩, ?_⟩, ⟨rfl, ⟨rfl, trivial⟩, ?_⟩, ⟨rfl, ⟨rfl, trivial⟩, ?_⟩, ⟨rfl, trivial, ?_⟩, ⟨rfl, ⟨rfl, trivial⟩, ?_⟩, ⟨rfl, ⟨rfl, trivial⟩, ?_⟩, ⟨rfl, ⟨rfl, trivial⟩, ?_⟩, ⟨rfl, trivial, ?_⟩, ⟨rfl, trivial, ?_⟩, ⟨rfl, trivial, ?_⟩, ⟨rfl, trivial, ?_⟩, trivial⟩
                  · intro w73 hE
                    intro RR
                    refine WL.move rfl rfl ?_
                    exact WL.done ⟨_, rfl, rfl, rfl, (fun h => absurd h (by decide)), (fun j h => by cases h)⟩
                  · intro w74 hE
                    intro RR
                    refine WL.move rfl rfl ?_
                    exact WL.done ⟨_, rfl, rfl, rfl, (fun h => absurd h (by decide)), (fun j h => by cases h)⟩
                  · intro w75 hE
                    have hE := hE rfl
                    have hS := hS.grow hE
                    rintro _ rfl
                    rintro _ rfl
                    intro RR
                    refine WL.call Try.func46 rfl Try.nm46 rfl rfl (calls_un (ok_Sum (GFX.gfr (hS.chunk (i := 1) rfl)) (hS.ro hvv0) o78)) ?_
                    rintro _ w77 ⟨_, hGw77, hRww77, hNww77, r76q, rfl, rfl, he⟩
                    subst he
                    exact WL.done ⟨_, rfl, hGw77, rfl, (fun h => absurd h (by decide)), (fun j h => by cases h)⟩
                  · intro w79 hE
                    intro RR
                    refine WL.move rfl rfl ?_
                    exact WL.done ⟨_, rfl, rfl, rfl, (fun h => absurd h (by decide)), (fun j h => by cases h)⟩
                  · intro w80 hE
                    rintro _ rfl
                    rintro _ rfl
                    intro RR
                    refine WL.eqlD rfl rfl rfl ?_; rw [decide_eq_true o81]
                    exact WL.done ⟨_, rfl, rfl, rfl, (fun h => absurd h (by decide)), (fun j h => by cases h)⟩
                  · intro w82 hE
                    rintro _ rfl
                    intro RR
                    refine WL.move rfl rfl ?_
                    exact WL.done ⟨_, rfl, rfl, rfl, (fun h => absurd h (by decide)), (fun j h => by cases h)⟩
                  · intro w83 hE
                    rintro _ rfl
                    intro RR
                    refine WL.take rfl ?_
                    refine WL.move rfl rfl ?_
                    exact WL.done ⟨_, rfl, rfl, rfl, (fun h => absurd h (by decide)), (fun j h => by cases h)⟩
                  · intro w84 hE
                    rintro _ rfl
                    intro RR
                    refine WL.take rfl ?_
                    refine WL.move rfl rfl ?_
                    exact WL.done ⟨_, rfl, rfl, rfl, (fun h => absurd h (by decide)), (fun j h => by cases h)⟩
                  · intro w85 hE
                    rintro _ rfl
                    intro RR
                    refine WL.take rfl ?_
                    refine WL.move rfl rfl ?_
                    exact WL.done ⟨_, rfl, rfl, rfl, (fun h => absurd h (by decide)), (fun j h => by cases h)⟩
                  · intro w86 hE
                    have hE := hE rfl
                    have hS := hS.grow hE
                    rintro _ rfl
                    rintro _ rfl
                    rintro _ rfl
                    rintro _ rfl
                    intro RR
                    refine WL.take rfl ?_
                    refine WL.call Try.func47 rfl Try.nm47 rfl rfl (calls_un (ok_Dot (GFX.gfr (hS.chunk (i := 1) rfl)) (hS.ro hvv0) (hS.ro hvv1) o89)) ?_
                    rintro _ w88 ⟨_, hGw88, hRww88, hNww88, r87q, rfl, rfl, he⟩
                    subst he
                    exact WL.done ⟨_, rfl, hGw88, rfl, (fun h => absurd h (by decide)), (fun j h => by cases h)⟩
                  · intro w90 hE
                    have hE := hE rfl
                    have hS := hS.grow hE
                    rintro _ rfl
                    intro RR
                    refine WL.take rfl ?_
                    refine WL.loadV (cs := [.int .i64 Pf, .int .i64 Mf, .slice Af mf.length kf]) Try.el24 Try.agg24 rfl rfl (Own.vcells (hS.own (i := 3) rfl)) rfl ?_
                    exact WL.done ⟨_, rfl, ext_refl _, rfl, (fun h => absurd h (by decide)), (fun j h => by cases h)⟩
                  · intro w91 hE
                    rintro _ rfl
                    intro RR
                    refine WL.take rfl ?_
                    refine WL.move rfl rfl ?_
                    exact WL.done ⟨_, rfl, rfl, rfl, (fun h => absurd h (by decide)), (fun j h => by cases h)⟩
                  · intro w92 hE
                    rintro _ rfl
                    intro RR
                    refine WL.take rfl ?_
                    refine WL.move rfl rfl ?_
                    exact WL.done ⟨_, rfl, rfl, rfl, (fun h => absurd h (by decide)), (fun j h => by cases h)⟩
                  · intro w93 hE
                    have hE := hE rfl
                    have hS := hS.grow hE
                    rintro _ rfl
                    rintro _ rfl
                    rintro _ rfl
                    rintro _ rfl
                    intro RR
                    refine WL.take rfl ?_
                    refine WL.call Try.func48 rfl Try.nm48 rfl rfl (calls_un (ok_rDot (hS.ro hf) (hS.ro hvv0) (hS.ro hvv1) o96)) ?_
                    rintro _ w95 ⟨_, hGw95, hRww95, hNww95, r94q, rfl, rfl, he⟩
                    subst he
                    exact WL.done ⟨_, rfl, hGw95, rfl, (fun h => absurd h (by decide)), (fun j h => by cases h)⟩
                  · intro w97 hE
                    rintro _ rfl
                    rintro _ rfl
                    rintro _ rfl
                    intro RR
                    refine WL.take rfl ?_
                    refine WL.eqlD rfl rfl rfl ?_; rw [decide_eq_true o98]
                    exact WL.done ⟨_, rfl, rfl, rfl, (fun h => absurd h (by decide)), (fun j h => by cases h)⟩
                  · intro w99 hE
                    rintro _ rfl
                    rintro _ rfl
                    intro RR
                    refine WL.pick rfl rfl rfl ?_
                    exact WL.done ⟨_, rfl, rfl, rfl, (fun h => absurd h (by decide)), (fun j h => by cases h)⟩
                  · intro w100 hE
                    rintro _ rfl
                    intro RR
                    refine WL.move rfl rfl ?_
                    exact WL.done ⟨_, rfl, rfl, rfl, (fun h => absurd h (by decide)), (fun j h => by cases h)⟩
                  · intro w101 hE
                    rintro _ rfl
                    intro RR
                    refine WL.take rfl ?_
                    refine WL.move rfl rfl ?_
                    exact WL.done ⟨_, rfl, rfl, rfl, (fun h => absurd h (by decide)), (fun j h => by cases h)⟩
                  · intro w102 hE
                    rintro _ rfl
                    intro RR
                    refine WL.take rfl ?_
                    refine WL.move rfl rfl ?_
                    exact WL.done ⟨_, rfl, rfl, rfl, (fun h => absurd h (by decide)), (fun j h => by cases h)⟩
                  · intro w103 hE
                    rintro _ rfl
                    intro RR
                    refine WL.take rfl ?_
                    refine WL.move rfl rfl ?_
                    exact WL.done ⟨_, rfl, rfl, rfl, (fun h => absurd h (by decide)), (fun j h => by cases h)⟩
                  · intro w104 hE
                    have hE := hE rfl
                    have hS := hS.grow hE
                    rintro _ rfl
                    rintro _ rfl
                    rintro _ rfl
                    rintro _ rfl
                    intro RR
                    refine WL.take rfl ?_
                    refine WL.call Try.func47 rfl Try.nm47 rfl rfl (calls_un (ok_Dot (GFX.gfr (hS.chunk (i := 1) rfl)) (hS.ro hvv1) (hS.ro hvv0) o107)) ?_
                    rintro _ w106 ⟨_, hGw106, hRww106, hNww106, r105q, rfl, rfl, he⟩
                    subst he
                    exact WL.done ⟨_, rfl, hGw106, rfl, (fun h => absurd h (by decide)), (fun j h => by cases h)⟩
                  · intro w108 hE
                    rintro _ rfl
                    intro RR
                    refine WL.take rfl ?_
                    refine WL.move rfl rfl ?_
                    exact WL.done ⟨_, rfl, rfl, rfl, (fun h => absurd h (by decide)), (fun j h => by cases h)⟩
                  · intro w109 hE
                    rintro _ rfl
                    intro RR
                    refine WL.take rfl ?_
                    refine WL.move rfl rfl ?_
                    exact WL.done ⟨_, rfl, rfl, rfl, (fun h => absurd h (by decide)), (fun j h => by cases h)⟩
                  · intro w110 hE
                    rintro _ rfl
                    intro RR
                    refine WL.take rfl ?_
                    refine WL.move rfl rfl ?_
                    exact WL.done ⟨_, rfl, rfl, rfl, (fun h => absurd h (by decide)), (fun j h => by cases h)⟩
                  · intro w111 hE
                    have hE := hE rfl
                    have hS := hS.grow hE
                    rintro _ rfl
                    rintro _ rfl
                    rintro _ rfl
                    rintro _ rfl
                    intro RR
                    refine WL.take rfl ?_
                    refine WL.call Try.func47 rfl Try.nm47 rfl rfl (calls_un (ok_Dot (GFX.gfr (hS.chunk (i := 1) rfl)) (hS.ro hvv0) (hS.ro hvv1) o114)) ?_
                    rintro _ w113 ⟨_, hGw113, hRww113, hNww113, r112q, rfl, rfl, he⟩
                    subst he
                    exact WL.done ⟨_, rfl, hGw113, rfl, (fun h => absurd h (by decide)), (fun j h => by cases h)⟩
                  · intro w115 hE
                    rintro _ rfl
                    rintro _ rfl
                    rintro _ rfl
                    intro RR
                    refine WL.take rfl ?_
                    refine WL.eqlD rfl rfl rfl ?_
                    exact WL.done ⟨_, rfl, rfl, rfl, (fun h => absurd h (by decide)), (fun j h => by cases h)⟩
                  · intro w116 hE
                    rintro _ rfl
                    rintro _ rfl
                    intro RR
                    refine WL.pick rfl rfl rfl ?_
                    exact WL.done ⟨_, rfl, rfl, rfl, (fun h => absurd h (by decide)), (fun j h => by cases h)⟩
                  · intro w117 hE
                    rintro _ rfl
                    intro RR
                    refine WL.assign rfl rfl ?_
                    exact WL.done ⟨_, rfl, rfl, rfl, (fun h => absurd h (by decide)), (fun j h => by cases h)⟩
                · intro vals w118 hT hVs hAp hCp
                  have hS := hS.grow hT
                  have hv0 : vals 0 = _ := hVs 0 (by decide)
                  have hv1 : vals 1 = _ := hVs 1 (by decide)
                  have hv2 : vals 2 = _ := hVs 2 (by decide)
                  have hv3 : vals 3 = _ := hVs 3 (by decide)
                  have hv4 : vals 4 = _ := hVs 4 (by decide)
                  have hv5 : vals 5 = _ := hVs 5 (by decide)
                  have hv6 : vals 6 = _ := hVs 6 (by decide)
                  have hv7 : vals 7 = _ := hVs 7 (by decide)
                  have hv8 : vals 8 = _ := hVs 8 (by decide)
                  have hv9 : vals 9 = _ := hVs 9 (by decide)
                  have hv10 : vals 10 = _ := hVs 10 (by decide)
                  have hv11 : vals 11 = _ := hVs 11 (by decide)
                  have hv12 : vals 12 = _ := hVs 12 (by decide)
                  have hv13 : vals 13 = _ := hVs 13 (by decide)
                  have hv14 : vals 14 = _ := hVs 14 (by decide)
                  have hv15 : vals 15 = _ := hVs 15 (by decide)
                  have hv16 : vals 16 = _ := hVs 16 (by decide)
                  have hv17 : vals 17 = _ := hVs 17 (by decide)
                  have hv18 : vals 18 = _ := hVs 18 (by decide)
                  have hv19 : vals 19 = _ := hVs 19 (by decide)
                  have hv20 : vals 20 = _ := hVs 20 (by decide)
                  have hv21 : vals 21 = _ := hVs 21 (by decide)
                  have hv22 : vals 22 = _ := hVs 22 (by decide)
                  have hv23 : vals 23 = _ := hVs 23 (by decide)
                  have hv24 : vals 24 = _ := hVs 24 (by decide)
                  have hv25 : vals 25 = _ := hVs 25 (by decide)
                  have hv26 : vals 26 = _ := hVs 26 (by decide)
                  have hv27 : vals 27 = _ := hVs 27 (by decide)
                  rw [show (List.filterMap (fun i => Option.map (fun t => (t, vals i)) (dstAt _ i)) (List.range _)) = [(73, .pointer (some ad29)), (74, .slice Avv0 vv0.length kvv0), (75, .int .i64 r76), (76, .int .i64 z48), (77, .bool true), (78, .bool true), (79, .pointer (some ad29)), (80, .slice Avv0 vv0.length kvv0), (81, .slice Avv1 vv1.length kvv1), (82, .int .i64 r87), (83, .agg #[.int .i64 Pf, .int .i64 Mf, .slice Af mf.length kf]), (84, .slice Avv0 vv0.length kvv0), (85, .slice Avv1 vv1.length kvv1), (86, .int .i64 r94), (87, .bool true), (88, .bool true), (89, .bool true), (90, .pointer (some ad29)), (91, .slice Avv1 vv1.length kvv1), (92, .slice Avv0 vv0.length kvv0), (93, .int .i64 r105), (94, .pointer (some ad29)), (95, .slice Avv0 vv0.length kvv0), (96, .slice Avv1 vv1.length kvv1), (97, .int .i64 r112), (98, .bool (decide (r105 = r112))), (99, .bool (decide (r105 = r112))), (6, .bool (decide (r105 = r112)))] from by
                    show [(73, vals 0), (74, vals 1), (75, vals 2), (76, vals 3), (77, vals 4), (78, vals 5), (79, vals 6), (80, vals 7), (81, vals 8), (82, vals 9), (83, vals 10), (84, vals 11), (85, vals 12), (86, vals 13), (87, vals 14), (88, vals 15), (89, vals 16), (90, vals 17), (91, vals 18), (92, vals 19), (93, vals 20), (94, vals 21), (95, vals 22), (96, vals 23), (97, vals 24), (98, vals 25), (99, vals 26), (6, vals 27)] = _
                    rw [hv0, hv1, hv2, hv3, hv4, hv5, hv6, hv7, hv8, hv9, hv10, hv11, hv12, hv13, hv14, hv15, hv16, hv17, hv18, hv19, hv20, hv21, hv22, hv23, hv24, hv25, hv26, hv27]]
                  refine WA.done (by decide +kernel) ?_
                  refine W.ret ?_
                  refine ⟨_, rfl, Fin.nil ?_⟩
                  exact ⟨_, hS.ext, (hS.pick [] rfl).rows, News.of (hS.pick [] rfl).rows rfl, ⟨(decide (r105 = r112)), rfl, rfl, hv⟩⟩

def V_FieldDigits (Pf : Int) (Mf : Int) (mf : List Int) (x : Int) (d : List Int) (Q : Bool → Prop) : Prop :=
  V_alive  (fun r14 => (((!r14) = true) → Q false) ∧ ((!r14) = false → (V_made Pf Mf mf (fun q => match q with | none => V_none Pf Mf mf (fun r26 => Q r26) | some F19 => V_Digits F19 x (fun x28 => V_FromDigits F19 x28 (fun q => match q with | (r33, r34) => V_rDigits Pf Mf mf x (fun x36 => V_lsame x28 x36 (fun r41 => (((!r41) = true) → Q false) ∧ ((!r41) = false → (((r34 ≠ (0 : Int)) → Q false) ∧ (¬ (r34 ≠ (0 : Int)) → (V_rIn Pf Mf mf x (fun r45 => ((r33 ≠ r45) → Q false) ∧ (¬ (r33 ≠ r45) → (V_FromDigits F19 d (fun q => match q with | (r48, r49) => ((((d.length : Nat) : Int) ≠ Mf) → (((r49 = (3 : Int)) → (Q (decide (r48 = (0 : Int))))) ∧ (¬ (r49 = (3 : Int)) → Q false))) ∧ (¬ (((d.length : Nat) : Int) ≠ Mf) → (∃ (I55 : Int → Prop) (μ56 : Int → Nat), I55 (0 : Int) ∧ ∀ (z54 : Int), (I55 z54 → (((z54 < ((d.length : Nat) : Int)) → ((0 ≤ z54 ∧ z54 < (d.length : Nat)) ∧ ((((gi d z54) < (0 : Int)) → (((r49 = (2 : Int)) → (Q (decide (r48 = (0 : Int))))) ∧ (¬ (r49 = (2 : Int)) → Q false))) ∧ (¬ ((gi d z54) < (0 : Int)) → (((Pf ≤ (gi d z54)) → (((r49 = (2 : Int)) → (Q (decide (r48 = (0 : Int))))) ∧ (¬ (r49 = (2 : Int)) → Q false))) ∧ (¬ (Pf ≤ (gi d z54)) → ((I64 (z54 + (1 : Int))) ∧ (I55 (z54 + (1 : Int)) ∧ μ56 (z54 + (1 : Int)) < μ56 z54)))))))) ∧ (¬ (z54 < ((d.length : Nat) : Int)) → (((r49 = (0 : Int)) → (V_rValue Pf Mf mf d (fun r67 => Q (decide (r48 = r67))))) ∧ (¬ (r49 = (0 : Int)) → Q false)))))))))))))))))))))))
theorem ok_FieldDigits {w : World} {Q : Bool → Prop} {Pf : Int} {Mf : Int} {mf : List Int} {x : Int} {d : List Int} {Bf : Nat} {Af : Option Addr} {nf kf : Nat} (hf : Rd Bf w 1 Af nf kf (is mf)) {Bd : Nat} {Ad : Option Addr} {nd kd : Nat} (hd : Rd Bd w 1 Ad nd kd (is d)) (hv : V_FieldDigits Pf Mf mf x d Q) :
    Calls Try.prog 13 #[.agg #[.int .i64 Pf, .int .i64 Mf, .slice Af nf kf], .int .i64 x, .slice Ad nd kd] w fun e w' => ∃ v Qr, e = .returned v ∧ w.grownBy w' none ∧ Rows w.heap.size none w' Qr ∧ News w.heap.size Qr ∧ ∃ (r0 : Bool), v = .bool r0 ∧ Qr = [] ∧ Q r0 := by
  have hnf := hf.ilen
  subst hnf
  have hnd := hd.ilen
  subst hnd
  refine calls_swap ?_
  refine calls_of_W (vs := [.agg #[.int .i64 Pf, .int .i64 Mf, .slice Af mf.length kf], .int .i64 x, .slice Ad d.length kd]) [6] Try.func13 rfl rfl rfl rfl ?_
  have hS := St.start w
  unfold V_FieldDigits at hv
  refine W.seq ?_
  refine W.region ?_
  refine SL.box (z := 3) (cs := [.int .i64 Pf, .int .i64 Mf, .slice Af mf.length kf]) hS rfl rfl rfl rfl ?_
  intro g11 w12 hS
  refine WL.assign rfl rfl ?_
  refine WL.done ?_
  refine W.seq ?_
  refine W.seq ?_
  refine W.region ?_
  refine SL.call hS (ok_alive  hv) Try.func17 rfl Try.nm17 rfl rfl ?_
  rintro _ _ w13 ⟨r14, rfl, rfl, hv⟩ hGw13 hS
  change St _ _ _ _ [.row 24 3 (some ⟨g11, 0, none⟩) 1 1 [.int .i64 Pf, .int .i64 Mf, .slice Af mf.length kf]] at hS
  refine WL.not rfl rfl ?_
  refine WL.done ?_
  refine W.cond2 rfl (fun c15 => ?_) (fun c15 => ?_)
  · have hv := hv.1 (c15)
    refine W.seq ?_
    refine W.region ?_
    refine WL.assign rfl rfl ?_
    refine WL.done ?_
    refine W.ret ?_
    refine ⟨_, rfl, Fin.nil ?_⟩
    exact ⟨_, hS.ext, (hS.pick [] rfl).rows, News.of (hS.pick [] rfl).rows rfl, ⟨false, rfl, rfl, hv⟩⟩
  · have hv := hv.2 (c15)
    refine W.skip ?_
    refine W.seq ?_
    refine W.region ?_
    refine WL.loadV (cs := [.int .i64 Pf, .int .i64 Mf, .slice Af mf.length kf]) Try.el24 Try.agg24 rfl rfl (Own.vcells (hS.own (i := 0) rfl)) rfl ?_
    refine SL.call hS (ok_made (hS.ro hf) hv) Try.func30 rfl Try.nm30 rfl rfl ?_
    rintro _ _ w17 ⟨o, hv, hK⟩ hGw17 hS
    cases o with
    | none =>
      obtain ⟨⟨pv24, rfl⟩, rfl⟩ := hK
      change St _ _ _ _ [.row 24 3 (some ⟨g11, 0, none⟩) 1 1 [.int .i64 Pf, .int .i64 Mf, .slice Af mf.length kf]] at hS
      refine WL.move rfl rfl ?_
      refine WL.extract rfl rfl rfl ?_
      refine WL.extract rfl rfl rfl ?_
      refine WL.assign rfl rfl ?_
      refine WL.assign rfl rfl ?_
      refine WL.done ?_
      refine W.seq ?_
      refine W.seq ?_
      refine W.region ?_
      refine WL.move rfl rfl ?_
      refine WL.not rfl rfl ?_
      refine WL.done ?_
      refine W.condT rfl ?_
      refine W.seq ?_
      refine W.region ?_
      refine WL.loadV (cs := [.int .i64 Pf, .int .i64 Mf, .slice Af mf.length kf]) Try.el24 Try.agg24 rfl rfl (Own.vcells (hS.own (i := 0) rfl)) rfl ?_
      refine SL.call hS (ok_none (hS.ro hf) hv) Try.func31 rfl Try.nm31 rfl rfl ?_
      rintro _ _ w25 ⟨r26, rfl, rfl, hv⟩ hGw25 hS
      change St _ _ _ _ [.row 24 3 (some ⟨g11, 0, none⟩) 1 1 [.int .i64 Pf, .int .i64 Mf, .slice Af mf.length kf]] at hS
      refine WL.assign rfl rfl ?_
      refine WL.done ?_
      refine W.ret ?_
      refine ⟨_, rfl, Fin.nil ?_⟩
      exact ⟨_, hS.ext, (hS.pick [] rfl).rows, News.of (hS.pick [] rfl).rows rfl, ⟨r26, rfl, rfl, hv⟩⟩
    | some F19 =>
      obtain ⟨ad20, lo21, hi22, rfl, rfl⟩ := hK
      change St _ _ _ _ [.ch lo21 hi22 (fun wz => GFX lo21 hi22 wz ad20 F19), .row 24 3 (some ⟨g11, 0, none⟩) 1 1 [.int .i64 Pf, .int .i64 Mf, .slice Af mf.length kf]] at hS
      refine WL.move rfl rfl ?_
      refine WL.extract rfl rfl rfl ?_
      refine WL.extract rfl rfl rfl ?_
      refine WL.assign rfl rfl ?_
      refine WL.assign rfl rfl ?_
      refine WL.done ?_
      refine W.seq ?_
      refine W.seq ?_
      refine W.region ?_
      refine WL.move rfl rfl ?_
      refine WL.not rfl rfl ?_
      refine WL.done ?_
      refine W.condF rfl ?_
      refine W.skip ?_
      refine W.seq ?_
      refine W.region ?_
      refine WL.move rfl rfl ?_
      refine WL.move rfl rfl ?_
      refine SL.call hS (ok_Digits (GFX.gfr (hS.chunk (i := 0) rfl)) hv) Try.func49 rfl Try.nm49 rfl rfl ?_
      rintro _ _ w27 ⟨x28, A29, k30, rfl, rfl, hv⟩ hGw27 hS
      change St _ _ _ _ [.row 3 1 A29 x28.length k30 (is x28), .ch lo21 hi22 (fun wz => GFX lo21 hi22 wz ad20 F19), .row 24 3 (some ⟨g11, 0, none⟩) 1 1 [.int .i64 Pf, .int .i64 Mf, .slice Af mf.length kf]] at hS
      refine WL.assign rfl rfl ?_
      refine WL.done ?_
      refine W.seq ?_
      refine W.region ?_
      refine WL.move rfl rfl ?_
      refine WL.move rfl rfl ?_
      refine SL.call hS (ok_FromDigits (GFX.gfr (hS.chunk (i := 1) rfl)) (hS.rd (i := 0) rfl) hv) Try.func50 rfl Try.nm50 rfl rfl ?_
      rintro _ _ w32 ⟨r33, r34, rfl, rfl, hv⟩ hGw32 hS
      change St _ _ _ _ [.row 3 1 A29 x28.length k30 (is x28), .ch lo21 hi22 (fun wz => GFX lo21 hi22 wz ad20 F19), .row 24 3 (some ⟨g11, 0, none⟩) 1 1 [.int .i64 Pf, .int .i64 Mf, .slice Af mf.length kf]] at hS
      refine WL.move rfl rfl ?_
      refine WL.extract rfl rfl rfl ?_
      refine WL.extract rfl rfl rfl ?_
      refine WL.assign rfl rfl ?_
      refine WL.assign rfl rfl ?_
      refine WL.done ?_
      refine W.seq ?_
      refine W.seq ?_
      refine W.region ?_
      refine WL.move rfl rfl ?_
      refine WL.loadV (cs := [.int .i64 Pf, .int .i64 Mf, .slice Af mf.length kf]) Try.el24 Try.agg24 rfl rfl (Own.vcells (hS.own (i := 2) rfl)) rfl ?_
      refine WL.move rfl rfl ?_
      refine SL.call hS (ok_rDigits (hS.ro hf) hv) Try.func52 rfl Try.nm52 rfl rfl ?_
      rintro _ _ w35 ⟨x36, A37, k38, rfl, rfl, hv⟩ hGw35 hS
      change St _ _ _ _ [.row 3 1 A37 x36.length k38 (is x36), .row 3 1 A29 x28.length k30 (is x28), .ch lo21 hi22 (fun wz => GFX lo21 hi22 wz ad20 F19), .row 24 3 (some ⟨g11, 0, none⟩) 1 1 [.int .i64 Pf, .int .i64 Mf, .slice Af mf.length kf]] at hS
      refine SL.call hS (ok_lsame (hS.rd (i := 1) rfl) (hS.rd (i := 0) rfl) hv) Try.func51 rfl Try.nm51 rfl rfl ?_
      rintro _ _ w40 ⟨r41, rfl, rfl, hv⟩ hGw40 hS
      change St _ _ _ _ [.row 3 1 A37 x36.length k38 (is x36), .row 3 1 A29 x28.length k30 (is x28), .ch lo21 hi22 (fun wz => GFX lo21 hi22 wz ad20 F19), .row 24 3 (some ⟨g11, 0, none⟩) 1 1 [.int .i64 Pf, .int .i64 Mf, .slice Af mf.length kf]] at hS
      refine WL.not rfl rfl ?_
      refine WL.move rfl rfl ?_
      rcases g42 : (!r41) with _ | _
      · have hv := hv.2 g42
        refine WL.take rfl ?_
        refine WL.move rfl rfl ?_
        refine WL.take rfl ?_
        refine WL.neqD rfl rfl rfl ?_
        refine WL.pick rfl rfl rfl ?_
        refine WL.move rfl rfl ?_
        by_cases g43 : r34 ≠ (0 : Int)
        · have hv := hv.1 g43
          rw [decide_eq_true g43]
          refine WL.pass rfl rfl rfl ?_
          refine WL.pass rfl rfl rfl ?_
          refine WL.pass rfl rfl rfl ?_
          refine WL.pass rfl rfl rfl ?_
          refine WL.pass rfl rfl rfl ?_
          refine WL.pick rfl rfl rfl ?_
          refine WL.done ?_
          refine W.condT rfl ?_
          refine W.seq ?_
          refine W.region ?_
          refine WL.assign rfl rfl ?_
          refine WL.done ?_
          refine W.ret ?_
          refine ⟨_, rfl, Fin.nil ?_⟩
          exact ⟨_, hS.ext, (hS.pick [] rfl).rows, News.of (hS.pick [] rfl).rows rfl, ⟨false, rfl, rfl, hv⟩⟩
        · have hv := hv.2 g43
          rw [decide_eq_false g43]
          refine WL.take rfl ?_
          refine WL.move rfl rfl ?_
          refine WL.take rfl ?_
          refine WL.loadV (cs := [.int .i64 Pf, .int .i64 Mf, .slice Af mf.length kf]) Try.el24 Try.agg24 rfl rfl (Own.vcells (hS.own (i := 3) rfl)) rfl ?_
          refine WL.take rfl ?_
          refine WL.move rfl rfl ?_
          refine WL.take rfl ?_
          refine SL.call hS (ok_rIn (hS.ro hf) hv) Try.func40 rfl Try.nm40 rfl rfl ?_
          rintro _ _ w44 ⟨r45, rfl, rfl, hv⟩ hGw44 hS
          change St _ _ _ _ [.row 3 1 A37 x36.length k38 (is x36), .row 3 1 A29 x28.length k30 (is x28), .ch lo21 hi22 (fun wz => GFX lo21 hi22 wz ad20 F19), .row 24 3 (some ⟨g11, 0, none⟩) 1 1 [.int .i64 Pf, .int .i64 Mf, .slice Af mf.length kf]] at hS
          refine WL.take rfl ?_
          refine WL.neqD rfl rfl rfl ?_
          refine WL.pick rfl rfl rfl ?_
          refine WL.done ?_
          refine W.cond2 rfl (fun c46 => ?_) (fun c46 => ?_)
          · have hv := hv.1 (of_decide_eq_true c46)
            refine W.seq ?_
            refine W.region ?_
            refine WL.assign rfl rfl ?_
            refine WL.done ?_
            refine W.ret ?_
            refine ⟨_, rfl, Fin.nil ?_⟩
            exact ⟨_, hS.ext, (hS.pick [] rfl).rows, News.of (hS.pick [] rfl).rows rfl, ⟨false, rfl, rfl, hv⟩⟩
          · have hv := hv.2 (of_decide_eq_false c46)
            refine W.skip ?_
            refine W.seq ?_
            refine W.region ?_
            refine WL.move rfl rfl ?_
            refine WL.move rfl rfl ?_
            refine SL.call hS (ok_FromDigits (GFX.gfr (hS.chunk (i := 2) rfl)) (hS.ro hd) hv) Try.func50 rfl Try.nm50 rfl rfl ?_
            rintro _ _ w47 ⟨r48, r49, rfl, rfl, hv⟩ hGw47 hS
            change St _ _ _ _ [.row 3 1 A37 x36.length k38 (is x36), .row 3 1 A29 x28.length k30 (is x28), .ch lo21 hi22 (fun wz => GFX lo21 hi22 wz ad20 F19), .row 24 3 (some ⟨g11, 0, none⟩) 1 1 [.int .i64 Pf, .int .i64 Mf, .slice Af mf.length kf]] at hS
            refine WL.move rfl rfl ?_
            refine WL.extract rfl rfl rfl ?_
            refine WL.extract rfl rfl rfl ?_
            refine WL.assign rfl rfl ?_
            refine WL.assign rfl rfl ?_
            refine WL.done ?_
            refine W.seq ?_
            refine W.seq ?_
            refine W.region ?_
            refine WL.move rfl rfl ?_
            refine WL.len Try.underlying22 rfl rfl ?_
            refine WL.fieldA (off := 1) Try.fla24_1 rfl rfl ?_
            refine WL.load Try.underlying3 rfl rfl (Own.vcells (hS.own (i := 3) rfl) 1 _ rfl) rfl ?_
            refine WL.neqD rfl rfl rfl ?_
            refine WL.done ?_
            refine W.cond2 rfl (fun c50 => ?_) (fun c50 => ?_)
            · have hv := hv.1 (of_decide_eq_true c50)
              refine W.seq ?_
              refine W.region ?_
              refine WL.move rfl rfl ?_
              refine WL.eqlD rfl rfl rfl ?_
              refine WL.move rfl rfl ?_
              by_cases g51 : r49 = (3 : Int)
              · have hv := hv.1 g51
                rw [decide_eq_true g51]
                refine WL.take rfl ?_
                refine WL.move rfl rfl ?_
                refine WL.take rfl ?_
                refine WL.eqlD rfl rfl rfl ?_
                refine WL.pick rfl rfl rfl ?_
                refine WL.assign rfl rfl ?_
                refine WL.done ?_
                refine W.ret ?_
                refine ⟨_, rfl, Fin.nil ?_⟩
                exact ⟨_, hS.ext, (hS.pick [] rfl).rows, News.of (hS.pick [] rfl).rows rfl, ⟨(decide (r48 = (0 : Int))), rfl, rfl, hv⟩⟩
              · have hv := hv.2 g51
                rw [decide_eq_false g51]
                refine WL.pass rfl rfl rfl ?_
                refine WL.pass rfl rfl rfl ?_
                refine WL.pick rfl rfl rfl ?_
                refine WL.assign rfl rfl ?_
                refine WL.done ?_
                refine W.ret ?_
                refine ⟨_, rfl, Fin.nil ?_⟩
                exact ⟨_, hS.ext, (hS.pick [] rfl).rows, News.of (hS.pick [] rfl).rows rfl, ⟨false, rfl, rfl, hv⟩⟩
            · have hv := hv.2 (of_decide_eq_false c50)
              refine W.skip ?_
              refine W.seq ?_
              refine W.seq ?_
              refine W.region ?_
              refine WL.move rfl rfl ?_
              refine WL.len Try.underlying22 rfl rfl ?_
              refine WL.move rfl rfl ?_
              refine WL.done ?_
              refine W.block ?_
              obtain ⟨I55, μ56, hv, hk68⟩ := hv
              change St _ _ _ _ [.row 3 1 A37 x36.length k38 (is x36), .row 3 1 A29 x28.length k30 (is x28), .ch lo21 hi22 (fun wz => GFX lo21 hi22 wz ad20 F19), .row 24 3 (some ⟨g11, 0, none⟩) 1 1 [.int .i64 Pf, .int .i64 Mf, .slice Af mf.length kf]] at hS
              refine W.loop (σ := Int) (fun z54 w1 => I55 z54 ∧ St TT w none w1 [.row 3 1 A37 x36.length k38 (is x36), .row 3 1 A29 x28.length k30 (is x28), .ch lo21 hi22 (fun wz => GFX lo21 hi22 wz ad20 F19), .row 24 3 (some ⟨g11, 0, none⟩) 1 1 [.int .i64 Pf, .int .i64 Mf, .slice Af mf.length kf]]) (fun z54 => [(2, .slice Ad d.length kd), (3, .pointer (some ⟨g11, 0, none⟩)), (6, .bool false), (12, .int .i64 r48), (13, .int .i64 r49), (70, .slice Ad d.length kd), (71, .int .i64 ((d.length : Nat) : Int)), (72, .int .i64 z54)]) (fun z54 => μ56 z54) (0 : Int) ⟨hv, hS⟩ ⟨rfl, rfl, rfl, rfl, rfl, rfl, rfl, rfl, trivial⟩ ?_
              rintro z54 w57 ⟨hv, hS⟩
              have hv := hk68 z54 hv
              refine W.seq ?_
              refine W.region ?_
              refine WL.lssD rfl rfl rfl ?_
              refine WL.done ?_
              refine W.seq ?_
              refine W.cond2 rfl (fun c58 => ?_) (fun c58 => ?_)
              · have hv := hv.1 (of_decide_eq_true c58)
                refine W.skip ?_
                refine W.seq ?_
                refine W.block ?_
                refine W.seq ?_
                refine W.region ?_
                obtain ⟨o59, hv⟩ := hv
                refine SL.index Try.underlying22 Try.el3 (hS.ro hd) rfl rfl o59 rfl ?_
                refine WL.load Try.underlying3 rfl rfl (Rd.gi (hS.ro hd) o59) rfl ?_
                refine WL.assign rfl rfl ?_
                refine WL.done ?_
                refine W.seq ?_
                refine W.region ?_
                refine WL.move rfl rfl ?_
                refine WL.lssD rfl rfl rfl ?_
                refine WL.move rfl rfl ?_
                by_cases g60 : (gi d z54) < (0 : Int)
                · have hv := hv.1 g60
                  rw [decide_eq_true g60]
                  refine WL.pass rfl rfl rfl ?_
                  refine WL.pass rfl rfl rfl ?_
                  refine WL.pass rfl rfl rfl ?_
                  refine WL.pass rfl rfl rfl ?_
                  refine WL.pick rfl rfl rfl ?_
                  refine WL.done ?_
                  refine W.condT rfl ?_
                  refine W.seq ?_
                  refine W.region ?_
                  refine WL.move rfl rfl ?_
                  refine WL.eqlD rfl rfl rfl ?_
                  refine WL.move rfl rfl ?_
                  by_cases g61 : r49 = (2 : Int)
                  · have hv := hv.1 g61
                    rw [decide_eq_true g61]
                    refine WL.take rfl ?_
                    refine WL.move rfl rfl ?_
                    refine WL.take rfl ?_
                    refine WL.eqlD rfl rfl rfl ?_
                    refine WL.pick rfl rfl rfl ?_
                    refine WL.assign rfl rfl ?_
                    refine WL.done ?_
                    refine W.ret ?_
                    refine ⟨_, rfl, Fin.nil ?_⟩
                    exact ⟨_, hS.ext, (hS.pick [] rfl).rows, News.of (hS.pick [] rfl).rows rfl, ⟨(decide (r48 = (0 : Int))), rfl, rfl, hv⟩⟩
                  · have hv := hv.2 g61
                    rw [decide_eq_false g61]
                    refine WL.pass rfl rfl rfl ?_
                    refine WL.pass rfl rfl rfl ?_
                    refine WL.pick rfl rfl rfl ?_
                    refine WL.assign rfl rfl ?_
                    refine WL.done ?_
                    refine W.ret ?_
                    refine ⟨_, rfl, Fin.nil ?_⟩
                    exact ⟨_, hS.ext, (hS.pick [] rfl).rows, News.of (hS.pick [] rfl).rows rfl, ⟨false, rfl, rfl, hv⟩⟩
                · have hv := hv.2 g60
                  rw [decide_eq_false g60]
                  refine WL.take rfl ?_
                  refine WL.move rfl rfl ?_
                  refine WL.take rfl ?_
                  refine WL.fieldA (off := 0) Try.fla24_0 rfl rfl ?_
                  refine WL.take rfl ?_
                  refine WL.load Try.underlying3 rfl rfl (Own.vcells (hS.own (i := 3) rfl) 0 _ rfl) rfl ?_
                  refine WL.take rfl ?_
                  refine WL.geqD rfl rfl rfl ?_
                  refine WL.pick rfl rfl rfl ?_
                  refine WL.done ?_
                  refine W.cond2 rfl (fun c62 => ?_) (fun c62 => ?_)
                  · have hv := hv.1 (of_decide_eq_true c62)
                    refine W.seq ?_
                    refine W.region ?_
                    refine WL.move rfl rfl ?_
                    refine WL.eqlD rfl rfl rfl ?_
                    refine WL.move rfl rfl ?_
                    by_cases g63 : r49 = (2 : Int)
                    · have hv := hv.1 g63
                      rw [decide_eq_true g63]
                      refine WL.take rfl ?_
                      refine WL.move rfl rfl ?_
                      refine WL.take rfl ?_
                      refine WL.eqlD rfl rfl rfl ?_
                      refine WL.pick rfl rfl rfl ?_
                      refine WL.assign rfl rfl ?_
                      refine WL.done ?_
                      refine W.ret ?_
                      refine ⟨_, rfl, Fin.nil ?_⟩
                      exact ⟨_, hS.ext, (hS.pick [] rfl).rows, News.of (hS.pick [] rfl).rows rfl, ⟨(decide (r48 = (0 : Int))), rfl, rfl, hv⟩⟩
                    · have hv := hv.2 g63
                      rw [decide_eq_false g63]
                      refine WL.pass rfl rfl rfl ?_
                      refine WL.pass rfl rfl rfl ?_
                      refine WL.pick rfl rfl rfl ?_
                      refine WL.assign rfl rfl ?_
                      refine WL.done ?_
                      refine W.ret ?_
                      refine ⟨_, rfl, Fin.nil ?_⟩
                      exact ⟨_, hS.ext, (hS.pick [] rfl).rows, News.of (hS.pick [] rfl).rows rfl, ⟨false, rfl, rfl, hv⟩⟩
                  · have hv := hv.2 (of_decide_eq_false c62)
                    refine W.skip ?_
                    refine W.region ?_
                    obtain ⟨o64, hv⟩ := hv
                    refine WL.add (r := (z54 + (1 : Int))) rfl rfl (wr o64) rfl ?_
                    refine WL.move rfl rfl ?_
                    refine WL.done ?_
                    change St _ _ _ _ [.row 3 1 A37 x36.length k38 (is x36), .row 3 1 A29 x28.length k30 (is x28), .ch lo21 hi22 (fun wz => GFX lo21 hi22 wz ad20 F19), .row 24 3 (some ⟨g11, 0, none⟩) 1 1 [.int .i64 Pf, .int .i64 Mf, .slice Af mf.length kf]] at hS
                    exact ⟨(z54 + (1 : Int)), ⟨rfl, rfl, rfl, rfl, rfl, rfl, rfl, rfl, trivial⟩, hv.2, rfl, hv.1, hS⟩
              · have hv := hv.2 (of_decide_eq_false c58)
                refine W.exit ?_
                refine W.seq ?_
                refine W.region ?_
                refine WL.move rfl rfl ?_
                refine WL.eqlD rfl rfl rfl ?_
                refine WL.move rfl rfl ?_
                by_cases g65 : r49 = (0 : Int)
                · have hv := hv.1 g65
                  rw [decide_eq_true g65]
                  refine WL.take rfl ?_
                  refine WL.move rfl rfl ?_
                  refine WL.take rfl ?_
                  refine WL.loadV (cs := [.int .i64 Pf, .int .i64 Mf, .slice Af mf.length kf]) Try.el24 Try.agg24 rfl rfl (Own.vcells (hS.own (i := 3) rfl)) rfl ?_
                  refine WL.take rfl ?_
                  refine WL.move rfl rfl ?_
                  refine WL.take rfl ?_
                  refine SL.call hS (ok_rValue (hS.ro hf) (hS.ro hd) hv) Try.func53 rfl Try.nm53 rfl rfl ?_
                  rintro _ _ w66 ⟨r67, rfl, rfl, hv⟩ hGw66 hS
                  change St _ _ _ _ [.row 3 1 A37 x36.length k38 (is x36), .row 3 1 A29 x28.length k30 (is x28), .ch lo21 hi22 (fun wz => GFX lo21 hi22 wz ad20 F19), .row 24 3 (some ⟨g11, 0, none⟩) 1 1 [.int .i64 Pf, .int .i64 Mf, .slice Af mf.length kf]] at hS
                  refine WL.take rfl ?_
                  refine WL.eqlD rfl rfl rfl ?_
                  refine WL.pick rfl rfl rfl ?_
                  refine WL.assign rfl rfl ?_
                  refine WL.done ?_
                  refine W.ret ?_
                  refine ⟨_, rfl, Fin.nil ?_⟩
                  exact ⟨_, hS.ext, (hS.pick [] rfl).rows, News.of (hS.pick [] rfl).rows rfl, ⟨(decide (r48 = r67)), rfl, rfl, hv⟩⟩
                · have hv := hv.2 g65
                  rw [decide_eq_false g65]
                  refine WL.pass rfl rfl rfl ?_
                  refine WL.pass rfl rfl rfl ?_
                  refine WL.pass rfl rfl rfl ?_
                  refine WL.pass rfl rfl rfl ?_
                  refine WL.pass rfl rfl rfl ?_
                  refine WL.pick rfl rfl rfl ?_
                  refine WL.assign rfl rfl ?_
                  refine WL.done ?_
                  refine W.ret ?_
                  refine ⟨_, rfl, Fin.nil ?_⟩
                  exact ⟨_, hS.ext, (hS.pick [] rfl).rows, News.of (hS.pick [] rfl).rows rfl, ⟨false, rfl, rfl, hv⟩⟩
      · have hv := hv.1 g42
        refine WL.pass rfl rfl rfl ?_
        refine WL.pass rfl rfl rfl ?_
        refine WL.pick rfl rfl rfl ?_
        refine WL.move rfl rfl ?_
        refine WL.pass rfl rfl rfl ?_
        refine WL.pass rfl rfl rfl ?_
        refine WL.pass rfl rfl rfl ?_
        refine WL.pass rfl rfl rfl ?_
        refine WL.pass rfl rfl rfl ?_
        refine WL.pick rfl rfl rfl ?_
        refine WL.done ?_
        refine W.condT rfl ?_
        refine W.seq ?_
        refine W.region ?_
        refine WL.assign rfl rfl ?_
        refine WL.done ?_
        refine W.ret ?_
        refine ⟨_, rfl, Fin.nil ?_⟩
        exact ⟨_, hS.ext, (hS.pick [] rfl).rows, News.of (hS.pick [] rfl).rows rfl, ⟨false, rfl, rfl, hv⟩⟩

def V_FieldOrders (Pf : Int) (Mf : Int) (mf : List Int) (x : Int) (Q : Bool → Prop) : Prop :=
  V_alive  (fun r14 => (((!r14) = true) → Q false) ∧ ((!r14) = false → (V_made Pf Mf mf (fun q => match q with | none => V_none Pf Mf mf (fun r26 => Q r26) | some F19 => V_MulOrder F19 x (fun q => match q with | (r28, r29) => V_rMulOrder Pf Mf mf x (fun r31 => ((r31 = (0 : Int)) → (((r29 = (7 : Int)) → (Q (decide (r28 = (0 : Int))))) ∧ (¬ (r29 = (7 : Int)) → Q false))) ∧ (¬ (r31 = (0 : Int)) → (((r29 = (0 : Int)) → (((r28 = r31) → (V_Order F19 (fun r37 => (I64 (r37 - (1 : Int))) ∧ ((r28 ≠ 0) ∧ (Q (decide (((r37 - (1 : Int)).tmod r28) = (0 : Int)))))))) ∧ (¬ (r28 = r31) → Q false))) ∧ (¬ (r29 = (0 : Int)) → Q false)))))))))
def V_FieldCounts (Pf : Int) (Mf : Int) (mf : List Int) (n : Int) (Q : Bool → Prop) : Prop :=
  V_alive  (fun r14 => (((!r14) = true) → Q false) ∧ ((!r14) = false → (V_made Pf Mf mf (fun q => match q with | none => V_none Pf Mf mf (fun r26 => Q r26) | some F19 => V_rOrder Pf Mf mf (fun r28 => ((n < (1 : Int)) → Q true) ∧ (¬ (n < (1 : Int)) → (((r28 < n) → Q true) ∧ (¬ (r28 < n) → (∃ (I40 : Int → Int → Int → Prop) (μ41 : Int → Int → Int → Nat), I40 (0 : Int) (0 : Int) (1 : Int) ∧ ∀ (z37 : Int) (z38 : Int) (z39 : Int), (I40 z37 z38 z39 → (((z39 < r28) → (∃ J49 : Int → Int → Int → Bool → Bool → Prop, (V_MulOrder F19 z39 (fun q => match q with | (r51, r52) => ∃ J54 : Int → Prop, (((r51 = n) → ((I64 (z37 + (1 : Int))) ∧ (J54 (z37 + (1 : Int))))) ∧ (¬ (r51 = n) → J54 z37)) ∧ ∀ (z53 : Int), (J54 z53 → ((I64 (r28 - (1 : Int))) ∧ (((r51 = (r28 - (1 : Int))) → ((I64 (z38 + (1 : Int))) ∧ (J49 z53 (z38 + (1 : Int)) r51 (decide (r51 = n)) (decide (r51 = (r28 - (1 : Int))))))) ∧ (¬ (r51 = (r28 - (1 : Int))) → (J49 z53 z38 r51 (decide (r51 = n)) (decide (r51 = (r28 - (1 : Int))))))))))) ∧ ∀ (z44 : Int) (z45 : Int) (z46 : Int) (b47 : Bool) (b48 : Bool), (J49 z44 z45 z46 b47 b48 → ((I64 (z39 + (1 : Int))) ∧ (I40 z44 z45 (z39 + (1 : Int)) ∧ μ41 z44 z45 (z39 + (1 : Int)) < μ41 z37 z38 z39))))) ∧ (¬ (z39 < r28) → ((I64 (r28 - (1 : Int))) ∧ ((n ≠ 0) ∧ (((((r28 - (1 : Int)).tmod n) ≠ (0 : Int)) → (((z37 = (0 : Int)) → (Q (decide ((0 : Int) < z38)))) ∧ (¬ (z37 = (0 : Int)) → Q false))) ∧ (¬ (((r28 - (1 : Int)).tmod n) ≠ (0 : Int)) → (V_coprime n (fun r70 => ((z37 = r70) → (Q (decide ((0 : Int) < z38)))) ∧ (¬ (z37 = r70) → Q false)))))))))))))))))))
theorem ok_FieldCounts {w : World} {Q : Bool → Prop} {Pf : Int} {Mf : Int} {mf : List Int} {n : Int} {Bf : Nat} {Af : Option Addr} {nf kf : Nat} (hf : Rd Bf w 1 Af nf kf (is mf)) (hv : V_FieldCounts Pf Mf mf n Q) :
    Calls Try.prog 15 #[.agg #[.int .i64 Pf, .int .i64 Mf, .slice Af nf kf], .int .i64 n] w fun e w' => ∃ v Qr, e = .returned v ∧ w.grownBy w' none ∧ Rows w.heap.size none w' Qr ∧ News w.heap.size Qr ∧ ∃ (r0 : Bool), v = .bool r0 ∧ Qr = [] ∧ Q r0 := by
  have hnf := hf.ilen
  subst hnf
  refine calls_swap ?_
  refine calls_of_W (vs := [.agg #[.int .i64 Pf, .int .i64 Mf, .slice Af mf.length kf], .int .i64 n]) [4] Try.func15 rfl rfl rfl rfl ?_
  have hS := St.start w
  unfold V_FieldCounts at hv
  refine W.seq ?_
  refine W.region ?_
  refine SL.box (z := 3) (cs := [.int .i64 Pf, .int .i64 Mf, .slice Af mf.length kf]) hS rfl rfl rfl rfl ?_
  intro g11 w12 hS
  refine WL.assign rfl rfl ?_
  refine WL.done ?_
  refine W.seq ?_
  refine W.seq ?_
  refine W.region ?_
  refine SL.call hS (ok_alive  hv) Try.func17 rfl Try.nm17 rfl rfl ?_
  rintro _ _ w13 ⟨r14, rfl, rfl, hv⟩ hGw13 hS
  change St _ _ _ _ [.row 24 3 (some ⟨g11, 0, none⟩) 1 1 [.int .i64 Pf, .int .i64 Mf, .slice Af mf.length kf]] at hS
  refine WL.not rfl rfl ?_
  refine WL.done ?_
  refine W.cond2 rfl (fun c15 => ?_) (fun c15 => ?_)
  · have hv := hv.1 (c15)
    refine W.seq ?_
    refine W.region ?_
    refine WL.assign rfl rfl ?_
    refine WL.done ?_
    refine W.ret ?_
    refine ⟨_, rfl, Fin.nil ?_⟩
    exact ⟨_, hS.ext, (hS.pick [] rfl).rows, News.of (hS.pick [] rfl).rows rfl, ⟨false, rfl, rfl, hv⟩⟩
  · have hv := hv.2 (c15)
    refine W.skip ?_
    refine W.seq ?_
    refine W.region ?_
    refine WL.loadV (cs := [.int .i64 Pf, .int .i64 Mf, .slice Af mf.length kf]) Try.el24 Try.agg24 rfl rfl (Own.vcells (hS.own (i := 0) rfl)) rfl ?_
    refine SL.call hS (ok_made (hS.ro hf) hv) Try.func30 rfl Try.nm30 rfl rfl ?_
    rintro _ _ w17 ⟨o, hv, hK⟩ hGw17 hS
    cases o with
    | none =>
      obtain ⟨⟨pv24, rfl⟩, rfl⟩ := hK
      change St _ _ _ _ [.row 24 3 (some ⟨g11, 0, none⟩) 1 1 [.int .i64 Pf, .int .i64 Mf, .slice Af mf.length kf]] at hS
      refine WL.move rfl rfl ?_
      refine WL.extract rfl rfl rfl ?_
      refine WL.extract rfl rfl rfl ?_
      refine WL.assign rfl rfl ?_
      refine WL.assign rfl rfl ?_
      refine WL.done ?_
      refine W.seq ?_
      refine W.seq ?_
      refine W.region ?_
      refine WL.move rfl rfl ?_
      refine WL.not rfl rfl ?_
      refine WL.done ?_
      refine W.condT rfl ?_
      refine W.seq ?_
      refine W.region ?_
      refine WL.loadV (cs := [.int .i64 Pf, .int .i64 Mf, .slice Af mf.length kf]) Try.el24 Try.agg24 rfl rfl (Own.vcells (hS.own (i := 0) rfl)) rfl ?_
      refine SL.call hS (ok_none (hS.ro hf) hv) Try.func31 rfl Try.nm31 rfl rfl ?_
      rintro _ _ w25 ⟨r26, rfl, rfl, hv⟩ hGw25 hS
      change St _ _ _ _ [.row 24 3 (some ⟨g11, 0, none⟩) 1 1 [.int .i64 Pf, .int .i64 Mf, .slice Af mf.length kf]] at hS
      refine WL.assign rfl rfl ?_
      refine WL.done ?_
      refine W.ret ?_
      refine ⟨_, rfl, Fin.nil ?_⟩
      exact ⟨_, hS.ext, (hS.pick [] rfl).rows, News.of (hS.pick [] rfl).rows rfl, ⟨r26, rfl, rfl, hv⟩⟩
    | some F19 =>
      obtain ⟨ad20, lo21, hi22, rfl, rfl⟩ := hK
      change St _ _ _ _ [.ch lo21 hi22 (fun wz => GFX lo21 hi22 wz ad20 F19), .row 24 3 (some ⟨g11, 0, none⟩) 1 1 [.int .i64 Pf, .int .i64 Mf, .slice Af mf.length kf]] at hS
      refine WL.move rfl rfl ?_
      refine WL.extract rfl rfl rfl ?_
      refine WL.extract rfl rfl rfl ?_
      refine WL.assign rfl rfl ?_
      refine WL.assign rfl rfl ?_
      refine WL.done ?_
      refine W.seq ?_
      refine W.seq ?_
      refine W.region ?_
      refine WL.move rfl rfl ?_
      refine WL.not rfl rfl ?_
      refine WL.done ?_
      refine W.condF rfl ?_
      refine W.skip ?_
      refine W.seq ?_
      refine W.region ?_
      refine WL.loadV (cs := [.int .i64 Pf, .int .i64 Mf, .slice Af mf.length kf]) Try.el24 Try.agg24 rfl rfl (Own.vcells (hS.own (i := 1) rfl)) rfl ?_
      refine SL.call hS (ok_rOrder (hS.ro hf) hv) Try.func25 rfl Try.nm25 rfl rfl ?_
      rintro _ _ w27 ⟨r28, rfl, rfl, hv⟩ hGw27 hS
      change St _ _ _ _ [.ch lo21 hi22 (fun wz => GFX lo21 hi22 wz ad20 F19), .row 24 3 (some ⟨g11, 0, none⟩) 1 1 [.int .i64 Pf, .int .i64 Mf, .slice Af mf.length kf]] at hS
      refine WL.assign rfl rfl ?_
      refine WL.done ?_
      refine W.seq ?_
      refine W.seq ?_
      refine W.region ?_
      refine WL.move rfl rfl ?_
      refine WL.lssD rfl rfl rfl ?_
      refine WL.move rfl rfl ?_
      by_cases g29 : n < (1 : Int)
      · have hv := hv.1 g29
        rw [decide_eq_true g29]
        refine WL.pass rfl rfl rfl ?_
        refine WL.pass rfl rfl rfl ?_
        refine WL.pass rfl rfl rfl ?_
        refine WL.pick rfl rfl rfl ?_
        refine WL.done ?_
        refine W.condT rfl ?_
        refine W.seq ?_
        refine W.region ?_
        refine WL.assign rfl rfl ?_
        refine WL.done ?_
        refine W.ret ?_
        refine ⟨_, rfl, Fin.nil ?_⟩
        exact ⟨_, hS.ext, (hS.pick [] rfl).rows, News.of (hS.pick [] rfl).rows rfl, ⟨true, rfl, rfl, hv⟩⟩
      · have hv := hv.2 g29
        rw [decide_eq_false g29]
        refine WL.take rfl ?_
        refine WL.move rfl rfl ?_
        refine WL.take rfl ?_
        refine WL.move rfl rfl ?_
        refine WL.take rfl ?_
        refine WL.gtrD rfl rfl rfl ?_
        refine WL.pick rfl rfl rfl ?_
        refine WL.done ?_
        refine W.cond2 rfl (fun c30 => ?_) (fun c30 => ?_)
        · have hv := hv.1 (of_decide_eq_true c30)
          refine W.seq ?_
          refine W.region ?_
          refine WL.assign rfl rfl ?_
          refine WL.done ?_
          refine W.ret ?_
          refine ⟨_, rfl, Fin.nil ?_⟩
          exact ⟨_, hS.ext, (hS.pick [] rfl).rows, News.of (hS.pick [] rfl).rows rfl, ⟨true, rfl, rfl, hv⟩⟩
        · have hv := hv.2 (of_decide_eq_false c30)
          refine W.skip ?_
          refine W.seq ?_
          refine W.region ?_
          refine WL.assign rfl rfl ?_
          refine WL.assign rfl rfl ?_
          refine WL.done ?_
          refine W.seq ?_
          refine W.seq ?_
          refine W.region ?_
          refine WL.assign rfl rfl ?_
          refine WL.done ?_
          refine W.block ?_
          obtain ⟨I40, μ41, hv, hk72⟩ := hv
          change St _ _ _ _ [.ch lo21 hi22 (fun wz => GFX lo21 hi22 wz ad20 F19), .row 24 3 (some ⟨g11, 0, none⟩) 1 1 [.int .i64 Pf, .int .i64 Mf, .slice Af mf.length kf]] at hS
          refine W.loop (σ := Int × Int × Int) (fun q w1 => match q with | (z37, z38, z39) => I40 z37 z38 z39 ∧ St TT w none w1 [.ch lo21 hi22 (fun wz => GFX lo21 hi22 wz ad20 F19), .row 24 3 (some ⟨g11, 0, none⟩) 1 1 [.int .i64 Pf, .int .i64 Mf, .slice Af mf.length kf]]) (fun q => match q with | (z37, z38, z39) => [(1, .int .i64 n), (4, .bool false), (5, .pointer (some ad20)), (7, .int .i64 r28), (8, .int .i64 z37), (9, .int .i64 z38), (10, .int .i64 z39)]) (fun q => match q with | (z37, z38, z39) => μ41 z37 z38 z39) ((0 : Int), (0 : Int), (1 : Int)) ⟨hv, hS⟩ ⟨rfl, rfl, rfl, rfl, rfl, rfl, rfl, trivial⟩ ?_
          rintro ⟨z37, z38, z39⟩ w42 ⟨hv, hS⟩
          have hv := hk72 z37 z38 z39 hv
          refine W.seq ?_
          refine W.seq ?_
          refine W.region ?_
          refine WL.move rfl rfl ?_
          refine WL.move rfl rfl ?_
          refine WL.lssD rfl rfl rfl ?_
          refine WL.done ?_
          refine W.cond2 rfl (fun c43 => ?_) (fun c43 => ?_)
          · have hv := hv.1 (of_decide_eq_true c43)
            refine W.skip ?_
            refine W.seq ?_
            obtain ⟨J49, hv, hk64⟩ := hv
            refine W.cutN (σ := Int × Int × Int × Bool × Bool) (fun q w1 => match q with | (z44, z45, z46, b47, b48) => J49 z44 z45 z46 b47 b48 ∧ St TT w none w1 [.ch lo21 hi22 (fun wz => GFX lo21 hi22 wz ad20 F19), .row 24 3 (some ⟨g11, 0, none⟩) 1 1 [.int .i64 Pf, .int .i64 Mf, .slice Af mf.length kf]]) (fun q => match q with | (z44, z45, z46, b47, b48) => [(1, .int .i64 n), (4, .bool false), (5, .pointer (some ad20)), (7, .int .i64 r28), (8, .int .i64 z44), (9, .int .i64 z45), (10, .int .i64 z39), (11, .int .i64 z46), (35, .bool (decide (z39 < r28))), (46, .bool b47), (52, .bool b48)]) ?_ ?_
            · refine W.block ?_
              refine W.seq ?_
              refine W.region ?_
              refine WL.move rfl rfl ?_
              refine WL.move rfl rfl ?_
              refine SL.call hS (ok_MulOrder (GFX.gfr (hS.chunk (i := 0) rfl)) hv) Try.func54 rfl Try.nm54 rfl rfl ?_
              rintro _ _ w50 ⟨r51, r52, rfl, rfl, hv⟩ hGw50 hS
              change St _ _ _ _ [.ch lo21 hi22 (fun wz => GFX lo21 hi22 wz ad20 F19), .row 24 3 (some ⟨g11, 0, none⟩) 1 1 [.int .i64 Pf, .int .i64 Mf, .slice Af mf.length kf]] at hS
              refine WL.move rfl rfl ?_
              refine WL.extract rfl rfl rfl ?_
              refine WL.extract rfl rfl rfl ?_
              refine WL.assign rfl rfl ?_
              refine WL.assign rfl rfl ?_
              refine WL.done ?_
              refine W.seq ?_
              refine W.seq ?_
              refine W.region ?_
              refine WL.move rfl rfl ?_
              refine WL.move rfl rfl ?_
              refine WL.eqlD rfl rfl rfl ?_
              refine WL.done ?_
              obtain ⟨J54, hv, hk61⟩ := hv
              refine W.cutN (σ := Int) (fun z53 w1 => J54 z53 ∧ St TT w none w1 [.ch lo21 hi22 (fun wz => GFX lo21 hi22 wz ad20 F19), .row 24 3 (some ⟨g11, 0, none⟩) 1 1 [.int .i64 Pf, .int .i64 Mf, .slice Af mf.length kf]]) (fun z53 => [(1, .int .i64 n), (4, .bool false), (5, .pointer (some ad20)), (7, .int .i64 r28), (8, .int .i64 z53), (9, .int .i64 z38), (10, .int .i64 z39), (11, .int .i64 r51), (35, .bool (decide (z39 < r28))), (46, .bool (decide (r51 = n)))]) ?_ ?_
              · refine W.cond2 rfl (fun c55 => ?_) (fun c55 => ?_)
                · have hv := hv.1 (of_decide_eq_true c55)
                  refine W.region ?_
                  refine WL.move rfl rfl ?_
                  obtain ⟨o56, hv⟩ := hv
                  refine WL.add (r := (z37 + (1 : Int))) rfl rfl (wr o56) rfl ?_
                  refine WL.assign rfl rfl ?_
                  refine WL.done ?_
                  change St _ _ _ _ [.ch lo21 hi22 (fun wz => GFX lo21 hi22 wz ad20 F19), .row 24 3 (some ⟨g11, 0, none⟩) 1 1 [.int .i64 Pf, .int .i64 Mf, .slice Af mf.length kf]] at hS
                  exact ⟨(z37 + (1 : Int)), ⟨rfl, rfl, rfl, rfl, rfl, rfl, rfl, rfl, rfl, rfl, trivial⟩, rfl, hv, hS⟩
                · have hv := hv.2 (of_decide_eq_false c55)
                  refine W.skip ?_
                  change St _ _ _ _ [.ch lo21 hi22 (fun wz => GFX lo21 hi22 wz ad20 F19), .row 24 3 (some ⟨g11, 0, none⟩) 1 1 [.int .i64 Pf, .int .i64 Mf, .slice Af mf.length kf]] at hS
                  exact ⟨z37, ⟨rfl, rfl, rfl, rfl, rfl, rfl, rfl, rfl, rfl, rfl, trivial⟩, rfl, hv, hS⟩
              · rintro z53 w57 ⟨hv, hS⟩
                have hv := hk61 z53 hv
                refine W.seq ?_
                refine W.region ?_
                refine WL.move rfl rfl ?_
                refine WL.move rfl rfl ?_
                obtain ⟨o58, hv⟩ := hv
                refine WL.sub (r := (r28 - (1 : Int))) rfl rfl (wr o58) rfl ?_
                refine WL.eqlD rfl rfl rfl ?_
                refine WL.done ?_
                refine W.cond2 rfl (fun c59 => ?_) (fun c59 => ?_)
                · have hv := hv.1 (of_decide_eq_true c59)
                  refine W.region ?_
                  refine WL.move rfl rfl ?_
                  obtain ⟨o60, hv⟩ := hv
                  refine WL.add (r := (z38 + (1 : Int))) rfl rfl (wr o60) rfl ?_
                  refine WL.assign rfl rfl ?_
                  refine WL.done ?_
                  change St _ _ _ _ [.ch lo21 hi22 (fun wz => GFX lo21 hi22 wz ad20 F19), .row 24 3 (some ⟨g11, 0, none⟩) 1 1 [.int .i64 Pf, .int .i64 Mf, .slice Af mf.length kf]] at hS
                  exact ⟨(z53, (z38 + (1 : Int)), r51, (decide (r51 = n)), (decide (r51 = (r28 - (1 : Int))))), ⟨rfl, rfl, rfl, rfl, rfl, rfl, rfl, rfl, rfl, rfl, rfl, trivial⟩, rfl, hv, hS⟩
                · have hv := hv.2 (of_decide_eq_false c59)
                  refine W.skip ?_
                  change St _ _ _ _ [.ch lo21 hi22 (fun wz => GFX lo21 hi22 wz ad20 F19), .row 24 3 (some ⟨g11, 0, none⟩) 1 1 [.int .i64 Pf, .int .i64 Mf, .slice Af mf.length kf]] at hS
                  exact ⟨(z53, z38, r51, (decide (r51 = n)), (decide (r51 = (r28 - (1 : Int))))), ⟨rfl, rfl, rfl, rfl, rfl, rfl, rfl, rfl, rfl, rfl, rfl, trivial⟩, rfl, hv, hS⟩
            · rintro ⟨z44, z45, z46, b47, b48⟩ w62 ⟨hv, hS⟩
              have hv := hk64 z44 z45 z46 b47 b48 hv
              refine W.region ?_
              refine WL.move rfl rfl ?_
              obtain ⟨o63, hv⟩ := hv
              refine WL.add (r := (z39 + (1 : Int))) rfl rfl (wr o63) rfl ?_
              refine WL.assign rfl rfl ?_
              refine WL.done ?_
              change St _ _ _ _ [.ch lo21 hi22 (fun wz => GFX lo21 hi22 wz ad20 F19), .row 24 3 (some ⟨g11, 0, none⟩) 1 1 [.int .i64 Pf, .int .i64 Mf, .slice Af mf.length kf]] at hS
              exact ⟨(z44, z45, (z39 + (1 : Int))), ⟨rfl, rfl, rfl, rfl, rfl, rfl, rfl, trivial⟩, hv.2, rfl, hv.1, hS⟩
          · have hv := hv.2 (of_decide_eq_false c43)
            refine W.exit ?_
            refine W.seq ?_
            refine W.seq ?_
            refine W.region ?_
            refine WL.move rfl rfl ?_
            obtain ⟨o65, hv⟩ := hv
            refine WL.sub (r := (r28 - (1 : Int))) rfl rfl (wr o65) rfl ?_
            refine WL.move rfl rfl ?_
            obtain ⟨o66, hv⟩ := hv
            refine WL.rem (r := ((r28 - (1 : Int)).tmod n)) rfl rfl o66 rfl rfl ?_
            refine WL.neqD rfl rfl rfl ?_
            refine WL.done ?_
            refine W.cond2 rfl (fun c67 => ?_) (fun c67 => ?_)
            · have hv := hv.1 (of_decide_eq_true c67)
              refine W.seq ?_
              refine W.region ?_
              refine WL.move rfl rfl ?_
              refine WL.eqlD rfl rfl rfl ?_
              refine WL.move rfl rfl ?_
              by_cases g68 : z37 = (0 : Int)
              · have hv := hv.1 g68
                rw [decide_eq_true g68]
                refine WL.take rfl ?_
                refine WL.move rfl rfl ?_
                refine WL.take rfl ?_
                refine WL.gtrD rfl rfl rfl ?_
                refine WL.pick rfl rfl rfl ?_
                refine WL.assign rfl rfl ?_
                refine WL.done ?_
                refine W.ret ?_
                refine ⟨_, rfl, Fin.nil ?_⟩
                exact ⟨_, hS.ext, (hS.pick [] rfl).rows, News.of (hS.pick [] rfl).rows rfl, ⟨(decide ((0 : Int) < z38)), rfl, rfl, hv⟩⟩
              · have hv := hv.2 g68
                rw [decide_eq_false g68]
                refine WL.pass rfl rfl rfl ?_
                refine WL.pass rfl rfl rfl ?_
                refine WL.pick rfl rfl rfl ?_
                refine WL.assign rfl rfl ?_
                refine WL.done ?_
                refine W.ret ?_
                refine ⟨_, rfl, Fin.nil ?_⟩
                exact ⟨_, hS.ext, (hS.pick [] rfl).rows, News.of (hS.pick [] rfl).rows rfl, ⟨false, rfl, rfl, hv⟩⟩
            · have hv := hv.2 (of_decide_eq_false c67)
              refine W.skip ?_
              refine W.seq ?_
              refine W.region ?_
              refine WL.move rfl rfl ?_
              refine WL.move rfl rfl ?_
              refine SL.call hS (ok_coprime  hv) Try.func56 rfl Try.nm56 rfl rfl ?_
              rintro _ _ w69 ⟨r70, rfl, rfl, hv⟩ hGw69 hS
              change St _ _ _ _ [.ch lo21 hi22 (fun wz => GFX lo21 hi22 wz ad20 F19), .row 24 3 (some ⟨g11, 0, none⟩) 1 1 [.int .i64 Pf, .int .i64 Mf, .slice Af mf.length kf]] at hS
              refine WL.eqlD rfl rfl rfl ?_
              refine WL.move rfl rfl ?_
              by_cases g71 : z37 = r70
              · have hv := hv.1 g71
                rw [decide_eq_true g71]
                refine WL.take rfl ?_
                refine WL.move rfl rfl ?_
                refine WL.take rfl ?_
                refine WL.gtrD rfl rfl rfl ?_
                refine WL.pick rfl rfl rfl ?_
                refine WL.assign rfl rfl ?_
                refine WL.done ?_
                refine W.ret ?_
                refine ⟨_, rfl, Fin.nil ?_⟩
                exact ⟨_, hS.ext, (hS.pick [] rfl).rows, News.of (hS.pick [] rfl).rows rfl, ⟨(decide ((0 : Int) < z38)), rfl, rfl, hv⟩⟩
              · have hv := hv.2 g71
                rw [decide_eq_false g71]
                refine WL.pass rfl rfl rfl ?_
                refine WL.pass rfl rfl rfl ?_
                refine WL.pick rfl rfl rfl ?_
                refine WL.assign rfl rfl ?_
                refine WL.done ?_
                refine W.ret ?_
                refine ⟨_, rfl, Fin.nil ?_⟩
                exact ⟨_, hS.ext, (hS.pick [] rfl).rows, News.of (hS.pick [] rfl).rows rfl, ⟨false, rfl, rfl, hv⟩⟩

def V_FieldElements (Pf : Int) (Mf : Int) (mf : List Int) (x : Int) (Q : Bool → Prop) : Prop :=
  V_alive  (fun r18 => (((!r18) = true) → Q false) ∧ ((!r18) = false → (V_made Pf Mf mf (fun q => match q with | none => V_none Pf Mf mf (fun r31 => Q r31) | some F24 => V_elements F24 (fun _ => I64 F24.q ∧ ∃ (I42 : Nat → Int → Prop) (J43 : Int → Prop) (J44 : Int → Prop), I42 0 (0 : Int) ∧ (∀ i38 : Nat, i38 < F24.q.toNat → ∀ (z41 : Int), I42 i38 z41 → ((((i38 : Int) ≠ z41) → J44 z41) ∧ (¬ ((i38 : Int) ≠ z41) → ((I64 (z41 + (1 : Int))) ∧ ((((z41 + (1 : Int)) = x) → (J43 (z41 + (1 : Int)))) ∧ (¬ ((z41 + (1 : Int)) = x) → (I42 (i38 + 1) (z41 + (1 : Int))))))))) ∧ (∀ (z41 : Int), I42 F24.q.toNat z41 → (V_rOrder Pf Mf mf (fun r54 => ((x < (1 : Int)) → (Q (decide (z41 = r54)))) ∧ (¬ (x < (1 : Int)) → (((r54 < x) → (Q (decide (z41 = r54)))) ∧ (¬ (r54 < x) → (Q (decide (z41 = x))))))))) ∧ (∀ (z41 : Int), J43 z41 → (V_rOrder Pf Mf mf (fun r62 => ((x < (1 : Int)) → (Q (decide (z41 = r62)))) ∧ (¬ (x < (1 : Int)) → (((r62 < x) → (Q (decide (z41 = r62)))) ∧ (¬ (r62 < x) → (Q (decide (z41 = x))))))))) ∧ (∀ (z41 : Int), J44 z41 → Q false))))))
end Go.Proofs.Ytinibbfpdbddpaa
set_option linter.unusedVariables false
namespace Go.Proofs.Ytinibbfpdbddpaa
/-! ### vectors over the integers, and the residues of a monic polynomial -/
abbrev Vec := Nat → Int
/-- multiplication by X: c holds the low coefficients of the monic polynomial -/
def tX (m : Nat) (c : Vec) (v : Vec) : Vec := fun i => if i < m then (if i = 0 then 0 else v (i - 1)) - c i * v (m - 1) else 0
def vadd (u v : Vec) : Vec := fun i => u i + v i
def vsm (a : Int) (v : Vec) : Vec := fun i => a * v i
def vz : Vec := fun _ => 0
def e0 : Vec := fun i => if i = 0 then 1 else 0
def tXn (m : Nat) (c : Vec) : Nat → Vec → Vec
  | 0, v => v
  | n + 1, v => tX m c (tXn m c n v)
def opr (m : Nat) (c b : Vec) : Nat → Vec → Vec
  | 0, _ => vz
  | n + 1, v => vadd (opr m c b n v) (vsm (b n) (tXn m c n v))
/-- the product of two residues -/
def vmul (m : Nat) (c a b : Vec) : Vec := opr m c b m a
section
variable (m : Nat) (c : Vec)
theorem tX_add (u v : Vec) : tX m c (vadd u v) = vadd (tX m c u) (tX m c v) := by
  funext i; simp only [tX, vadd]; split
  · split <;> grind
  · rfl
theorem tX_sm (a : Int) (v : Vec) : tX m c (vsm a v) = vsm a (tX m c v) := by
  funext i; simp only [tX, vsm]; split
  · split <;> grind
  · grind
theorem tX_z : tX m c vz = vz := by funext i; simp [tX, vz]
theorem vadd_z (u : Vec) : vadd u vz = u := by funext i; simp [vadd, vz]
theorem z_vadd (u : Vec) : vadd vz u = u := by funext i; simp [vadd, vz]
theorem vadd_comm (u v : Vec) : vadd u v = vadd v u := by funext i; simp only [vadd]; omega
theorem vadd_assoc (u v w : Vec) : vadd (vadd u v) w = vadd u (vadd v w) := by funext i; simp only [vadd]; omega
theorem vsm_add (a : Int) (u v : Vec) : vsm a (vadd u v) = vadd (vsm a u) (vsm a v) := by funext i; simp only [vadd, vsm]; grind
theorem vsm_sm (a b : Int) (u : Vec) : vsm a (vsm b u) = vsm (a * b) u := by funext i; simp only [vsm]; grind
theorem vsm_z (a : Int) : vsm a vz = vz := by funext i; simp [vsm, vz]
theorem tXn_add (n : Nat) (u v : Vec) : tXn m c n (vadd u v) = vadd (tXn m c n u) (tXn m c n v) := by
  induction n with
  | zero => rfl
  | succ n ih => simp only [tXn, ih, tX_add]
theorem tXn_sm (n : Nat) (a : Int) (v : Vec) : tXn m c n (vsm a v) = vsm a (tXn m c n v) := by
  induction n with
  | zero => rfl
  | succ n ih => simp only [tXn, ih, tX_sm]
theorem tXn_z (n : Nat) : tXn m c n vz = vz := by
  induction n with
  | zero => rfl
  | succ n ih => simp only [tXn, ih, tX_z]
theorem tXn_succ (n : Nat) (v : Vec) : tXn m c n (tX m c v) = tX m c (tXn m c n v) := by
  induction n with
  | zero => rfl
  | succ n ih => simp only [tXn, ih]
theorem tXn_tXn (n k : Nat) (v : Vec) : tXn m c n (tXn m c k v) = tXn m c (n + k) v := by
  induction n with
  | zero => simp [tXn]
  | succ n ih => rw [Nat.succ_add]; simp only [tXn, ih]
variable (b : Vec)
theorem opr_add (n : Nat) (u v : Vec) : opr m c b n (vadd u v) = vadd (opr m c b n u) (opr m c b n v) := by
  induction n with
  | zero => simp [opr, vadd_z]
  | succ n ih => simp only [opr, ih, tXn_add, vsm_add]; funext i; simp only [vadd]; omega
theorem opr_sm (n : Nat) (a : Int) (v : Vec) : opr m c b n (vsm a v) = vsm a (opr m c b n v) := by
  induction n with
  | zero => simp [opr, vsm_z]
  | succ n ih => simp only [opr, ih, tXn_sm, vsm_add, vsm_sm]; rw [Int.mul_comm (b n) a]
theorem opr_z (n : Nat) : opr m c b n vz = vz := by
  induction n with
  | zero => rfl
  | succ n ih => simp only [opr, ih, tXn_z, vsm_z, vadd_z]
theorem opr_tXn (n k : Nat) (v : Vec) : opr m c b n (tXn m c k v) = tXn m c k (opr m c b n v) := by
  induction n with
  | zero => simp [opr, tXn_z]
  | succ n ih => simp only [opr, ih, tXn_add, tXn_sm, tXn_tXn]; rw [Nat.add_comm n k]
theorem opr_comm (d : Vec) (n k : Nat) (v : Vec) : opr m c b n (opr m c d k v) = opr m c d k (opr m c b n v) := by
  induction n with
  | zero => simp only [opr, opr_z]
  | succ n ih => simp only [opr, ih, opr_add, opr_sm, opr_tXn]
theorem opr_vadd (d : Vec) (n : Nat) (v : Vec) : opr m c (vadd b d) n v = vadd (opr m c b n v) (opr m c d n v) := by
  induction n with
  | zero => simp [opr, vadd_z]
  | succ n ih => simp only [opr, ih]; funext i; simp only [vadd, vsm]; grind
end
def vei (k : Nat) : Vec := fun i => if i = k then 1 else 0
theorem tXn_e0 {m : Nat} {c : Vec} : ∀ {k : Nat}, k < m → tXn m c k e0 = vei k
  | 0, _ => rfl
  | k + 1, h => by
    have ih : tXn m c k e0 = vei k := tXn_e0 (by omega)
    simp only [tXn, ih]
    funext i
    simp only [tX, vei]
    split
    · rw [if_neg (show ¬ m - 1 = k by omega)]
      by_cases h0 : i = 0
      · subst h0; simp
      · simp only [h0, if_false]; by_cases h1 : i = k + 1
        · subst h1; simp
        · rw [if_neg (by omega), if_neg h1]; simp
    · rw [if_neg (by omega)]
/-- a vector below m is the combination of the powers of X -/
theorem opr_e0 {m : Nat} {c a : Vec} : ∀ {n : Nat}, n ≤ m → ∀ i, opr m c a n e0 i = if i < n then a i else 0
  | 0, _, i => by simp [opr, vz]
  | n + 1, h, i => by
    simp only [opr, vadd, vsm]
    rw [opr_e0 (n := n) (by omega) i, tXn_e0 (by omega)]
    simp only [vei]
    by_cases h1 : i = n
    · subst h1; simp
    · by_cases h2 : i < n
      · simp [h2, h1, show i < n + 1 by omega]
      · simp [h2, h1, show ¬ i < n + 1 by omega]
/-- zero from m on -/
def Sup (m : Nat) (v : Vec) : Prop := ∀ i, m ≤ i → v i = 0
theorem opr_self {m : Nat} {c a : Vec} (h : Sup m a) : opr m c a m e0 = a := by
  funext i; rw [opr_e0 (Nat.le_refl m)]
  split
  · rfl
  · exact (h i (by omega)).symm
theorem Sup.z {m : Nat} : Sup m vz := fun _ _ => rfl
theorem Sup.tX {m : Nat} {c v : Vec} : Sup m (tX m c v) := fun i h => by simp [Go.Proofs.Ytinibbfpdbddpaa.tX, show ¬ i < m by omega]
theorem Sup.add {m : Nat} {u v : Vec} (hu : Sup m u) (hv : Sup m v) : Sup m (vadd u v) := fun i h => by simp [vadd, hu i h, hv i h]
theorem Sup.sm {m : Nat} {a : Int} {v : Vec} (hv : Sup m v) : Sup m (vsm a v) := fun i h => by simp [vsm, hv i h]
theorem Sup.tXn {m : Nat} {c v : Vec} (hv : Sup m v) : ∀ n, Sup m (tXn m c n v)
  | 0 => hv
  | _ + 1 => Sup.tX
theorem Sup.opr {m : Nat} {c b v : Vec} (hv : Sup m v) : ∀ n, Sup m (opr m c b n v)
  | 0 => Sup.z
  | n + 1 => (Sup.opr hv n).add (hv.tXn n).sm
theorem vmul_comm {m : Nat} {c a b : Vec} (ha : Sup m a) (hb : Sup m b) : vmul m c a b = vmul m c b a := by
  unfold vmul
  calc opr m c b m a = opr m c b m (opr m c a m e0) := by rw [opr_self ha]
    _ = opr m c a m (opr m c b m e0) := opr_comm ..
    _ = opr m c a m b := by rw [opr_self hb]
theorem vmul_assoc {m : Nat} {c a b d : Vec} (ha : Sup m a) (hb : Sup m b) (hd : Sup m d) : vmul m c (vmul m c a b) d = vmul m c a (vmul m c b d) := by
  rw [vmul_comm (a := a) (b := vmul m c b d) ha (Sup.opr hb m)]
  show opr m c d m (opr m c b m a) = opr m c a m (opr m c d m b)
  rw [← opr_comm m c d a m m b]
  show opr m c d m (vmul m c a b) = opr m c d m (vmul m c b a)
  rw [vmul_comm ha hb]
theorem vmul_add {m : Nat} {c a b d : Vec} : vmul m c a (vadd b d) = vadd (vmul m c a b) (vmul m c a d) := opr_vadd ..
theorem vmul_one {m : Nat} {c a : Vec} (hm : 0 < m) : vmul m c a e0 = a := by
  have key : ∀ n, 0 < n → opr m c e0 n a = a := by
    intro n
    induction n with
    | zero => intro h; omega
    | succ n ih =>
      intro _
      rcases Nat.eq_zero_or_pos n with h | h
      · subst h; funext i; simp [opr, e0, vadd, vsm, vz, tXn]
      · simp only [opr, ih h]; funext i; simp [e0, vadd, vsm, show n ≠ 0 by omega]
  exact key m hm
/-! ### congruence modulo p -/
def vcg (p : Int) (u v : Vec) : Prop := ∀ i, u i % p = v i % p
section
variable {p : Int} {m : Nat} {c c' u u' v v' b b' : Vec}
theorem vcg.refl (u : Vec) : vcg p u u := fun _ => rfl
theorem vcg.symm (h : vcg p u v) : vcg p v u := fun i => (h i).symm
theorem vcg.trans {w : Vec} (h : vcg p u v) (k : vcg p v w) : vcg p u w := fun i => (h i).trans (k i)
theorem mul_cg {a a' d d' : Int} (h : a % p = a' % p) (k : d % p = d' % p) : (a * d) % p = (a' * d') % p := by
  rw [Int.mul_emod, h, k, ← Int.mul_emod]
theorem add_cg {a a' d d' : Int} (h : a % p = a' % p) (k : d % p = d' % p) : (a + d) % p = (a' + d') % p := by
  rw [Int.add_emod, h, k, ← Int.add_emod]
theorem sub_cg {a a' d d' : Int} (h : a % p = a' % p) (k : d % p = d' % p) : (a - d) % p = (a' - d') % p := by
  rw [Int.sub_emod, h, k, ← Int.sub_emod]
theorem vcg.add (h : vcg p u u') (k : vcg p v v') : vcg p (vadd u v) (vadd u' v') := fun i => add_cg (h i) (k i)
theorem vcg.sm {a a' : Int} (ha : a % p = a' % p) (h : vcg p u u') : vcg p (vsm a u) (vsm a' u') := fun i => mul_cg ha (h i)
theorem vcg.tX (hc : vcg p c c') (h : vcg p u u') : vcg p (tX m c u) (tX m c' u') := fun i => by
  simp only [Go.Proofs.Ytinibbfpdbddpaa.tX]
  split
  · split
    · exact sub_cg rfl (mul_cg (hc i) (h _))
    · exact sub_cg (h _) (mul_cg (hc i) (h _))
  · rfl
theorem vcg.tXn (hc : vcg p c c') (h : vcg p u u') : ∀ n, vcg p (tXn m c n u) (tXn m c' n u')
  | 0 => h
  | n + 1 => vcg.tX hc (vcg.tXn hc h n)
theorem vcg.opr (hc : vcg p c c') (hb : vcg p b b') (h : vcg p u u') : ∀ n, vcg p (opr m c b n u) (opr m c' b' n u')
  | 0 => .refl _
  | n + 1 => (vcg.opr hc hb h n).add (vcg.sm (hb n) (vcg.tXn hc h n))
theorem vcg.mul (hc : vcg p c c') (h : vcg p u u') (hb : vcg p b b') : vcg p (vmul m c u b) (vmul m c' u' b') := vcg.opr hc hb h m
end
end Go.Proofs.Ytinibbfpdbddpaa
set_option linter.unusedVariables false
namespace Go.Proofs.Ytinibbfpdbddpaa
/-! ### digits, values, and the operations of a field of residues -/
def dv (p x : Nat) : Vec := fun i => ((x / p ^ i % p : Nat) : Int)
def vl (p : Nat) : Nat → Vec → Int
  | 0, _ => 0
  | n + 1, v => v 0 + (p : Int) * vl p n (fun i => v (i + 1))
def Cn (p n : Nat) (v : Vec) : Prop := ∀ i, i < n → 0 ≤ v i ∧ v i < p
def nm (p m : Nat) (v : Vec) : Nat := (vl p m (fun i => v i % (p : Int))).toNat
theorem dv_succ (p x i : Nat) : dv p x (i + 1) = dv p (x / p) i := by
  simp only [dv]; rw [Nat.pow_succ', ← Nat.div_div_eq_div_mul]
theorem dv_zero (p x : Nat) : dv p x 0 = ((x % p : Nat) : Int) := by simp [dv]
theorem Cn.tl {p n : Nat} {v : Vec} (h : Cn p (n + 1) v) : Cn p n (fun i => v (i + 1)) := fun i hi => h (i + 1) (by omega)
theorem vl_bd {p : Nat} (hp : 0 < p) : ∀ {n : Nat} {v : Vec}, Cn p n v → 0 ≤ vl p n v ∧ vl p n v < ((p ^ n : Nat) : Int)
  | 0, v, _ => by simp [vl]
  | n + 1, v, h => by
    have ih := vl_bd hp h.tl
    have h0 := h 0 (by omega)
    simp only [vl]
    have h1 : (p : Int) * vl p n (fun i => v (i + 1)) ≤ p * (((p ^ n : Nat) : Int) - 1) := Int.mul_le_mul_of_nonneg_left (by omega) (by omega)
    have h2 : 0 ≤ (p : Int) * vl p n (fun i => v (i + 1)) := Int.mul_nonneg (by omega) ih.1
    have h3 : ((p ^ (n + 1) : Nat) : Int) = p * ((p ^ n : Nat) : Int) := by rw [Nat.pow_succ']; push_cast; rfl
    have h4 : (p : Int) * (((p ^ n : Nat) : Int) - 1) = p * ((p ^ n : Nat) : Int) - p := by rw [Int.mul_sub, Int.mul_one]
    omega
theorem vl_congr {p : Nat} : ∀ {n : Nat} {u v : Vec}, (∀ i, i < n → u i = v i) → vl p n u = vl p n v
  | 0, _, _, _ => rfl
  | n + 1, u, v, h => by simp only [vl]; rw [h 0 (by omega), vl_congr (n := n) fun i hi => h (i + 1) (by omega)]
theorem vl_dv {p : Nat} (hp : 0 < p) : ∀ {n x : Nat}, x < p ^ n → vl p n (dv p x) = x
  | 0, x, h => by simp at h; subst h; rfl
  | n + 1, x, h => by
    simp only [vl]
    have : (fun i => dv p x (i + 1)) = dv p (x / p) := by funext i; exact dv_succ p x i
    rw [this, vl_dv hp (n := n) (by rw [Nat.div_lt_iff_lt_mul hp, ← Nat.pow_succ]; exact h), dv_zero]
    have := Nat.mod_add_div x p
    have h2 : ((x % p + p * (x / p) : Nat) : Int) = (x : Int) := by rw [this]
    push_cast at h2 ⊢; exact h2
theorem dv_vl {p : Nat} (hp : 0 < p) : ∀ {n : Nat} {v : Vec}, Cn p n v → ∀ i, i < n → dv p (vl p n v).toNat i = v i
  | 0, _, _, i, hi => by omega
  | n + 1, v, h, i, hi => by
    have ih := vl_bd hp h.tl
    have h0 := h 0 (by omega)
    obtain ⟨t, ht⟩ := Int.eq_ofNat_of_zero_le ih.1
    obtain ⟨a, ha⟩ := Int.eq_ofNat_of_zero_le h0.1
    have hv : (vl p (n + 1) v).toNat = a + p * t := by
      simp only [vl]; rw [ht, ha]
      have : (a : Int) + (p : Int) * (t : Int) = ((a + p * t : Nat) : Int) := by push_cast; rfl
      rw [this]; rfl
    have hap : a < p := by have := h0.2; rw [ha] at this; omega
    rw [hv]
    cases i with
    | zero => rw [dv_zero, Nat.add_mul_mod_self_left, Nat.mod_eq_of_lt hap, ha]
    | succ i =>
      rw [dv_succ]
      have h2 : (a + p * t) / p = t := by rw [Nat.add_mul_div_left _ _ hp, Nat.div_eq_of_lt hap, Nat.zero_add]
      have ih2 := dv_vl hp h.tl i (by omega)
      rw [ht] at ih2
      rw [h2]; exact ih2
section
variable {p m : Nat}
theorem md_cn (hp : 0 < p) (v : Vec) (n : Nat) : Cn p n (fun i => v i % (p : Int)) := fun i _ => ⟨Int.emod_nonneg _ (by omega), Int.emod_lt_of_pos _ (by omega)⟩
theorem nm_lt (hp : 0 < p) (v : Vec) : nm p m v < p ^ m := by
  have := vl_bd hp (md_cn hp v m)
  unfold nm; omega
theorem dv_nm (hp : 0 < p) (v : Vec) {i : Nat} (hi : i < m) : dv p (nm p m v) i = v i % (p : Int) := dv_vl hp (md_cn hp v m) i hi
theorem dv_cn (hp : 0 < p) (x n : Nat) : Cn p n (dv p x) := fun i _ => by
  have := Nat.mod_lt (x / p ^ i) hp
  simp only [dv]; omega
theorem dv_hi {x i : Nat} (hx : x < p ^ m) (hi : m ≤ i) : dv p x i = 0 := by
  rcases Nat.eq_zero_or_pos p with rfl | hp
  · simp only [dv]
    cases m with
    | zero =>
      have : x = 0 := by simpa using hx
      subst this; simp
    | succ m => simp at hx
  · have : x / p ^ i = 0 := Nat.div_eq_of_lt (Nat.lt_of_lt_of_le hx (Nat.pow_le_pow_right hp hi))
    simp [dv, this]
theorem dv_sup {x : Nat} (hx : x < p ^ m) : Sup m (dv p x) := fun i hi => dv_hi hx hi
theorem dv_mod (x i : Nat) : dv p x i % (p : Int) = dv p x i := by
  simp only [dv]; rw [← Int.natCast_emod, Nat.mod_mod]
theorem nm_dv (hp : 0 < p) {x : Nat} (hx : x < p ^ m) : nm p m (dv p x) = x := by
  unfold nm
  rw [vl_congr (v := dv p x) fun i _ => dv_mod x i, vl_dv hp hx]; rfl
theorem nm_cg {u v : Vec} (h : ∀ i, i < m → u i % (p : Int) = v i % (p : Int)) : nm p m u = nm p m v := by
  unfold nm; rw [vl_congr h]
theorem nm_vcg {u v : Vec} (h : vcg p u v) : nm p m u = nm p m v := nm_cg fun i _ => h i
theorem cg_nm (hp : 0 < p) {v : Vec} (hv : Sup m v) : vcg p (dv p (nm p m v)) v := fun i => by
  rcases Nat.lt_or_ge i m with h | h
  · rw [dv_nm hp v h, Int.emod_emod]
  · rw [dv_hi (nm_lt hp v) h, hv i h]
theorem nm_eq (hp : 0 < p) {x : Nat} {v : Vec} (hx : x < p ^ m) (h : ∀ i, i < m → dv p x i = v i % (p : Int)) : nm p m v = x := by
  rw [← nm_dv hp hx]
  exact nm_cg fun i hi => by rw [h i hi, Int.emod_emod]
end
/-! the operations -/
def fadd (p m x y : Nat) : Nat := nm p m (vadd (dv p x) (dv p y))
def fneg (p m x : Nat) : Nat := nm p m (vsm (-1) (dv p x))
def fmul (p m : Nat) (c : Vec) (x y : Nat) : Nat := nm p m (vmul m c (dv p x) (dv p y))
section
variable {p m : Nat} {c : Vec}
theorem fadd_lt (hp : 0 < p) (x y : Nat) : fadd p m x y < p ^ m := nm_lt hp _
theorem fneg_lt (hp : 0 < p) (x : Nat) : fneg p m x < p ^ m := nm_lt hp _
theorem fmul_lt (hp : 0 < p) (x y : Nat) : fmul p m c x y < p ^ m := nm_lt hp _
theorem dv_fadd (hp : 0 < p) {x y : Nat} (hx : x < p ^ m) (hy : y < p ^ m) : vcg p (dv p (fadd p m x y)) (vadd (dv p x) (dv p y)) := cg_nm hp ((dv_sup hx).add (dv_sup hy))
theorem dv_fneg (hp : 0 < p) {x : Nat} (hx : x < p ^ m) : vcg p (dv p (fneg p m x)) (vsm (-1) (dv p x)) := cg_nm hp (dv_sup hx).sm
theorem vmul_sup {a b : Vec} (ha : Sup m a) : Sup m (vmul m c a b) := Sup.opr ha m
theorem dv_fmul (hp : 0 < p) {x y : Nat} (hx : x < p ^ m) : vcg p (dv p (fmul p m c x y)) (vmul m c (dv p x) (dv p y)) := cg_nm hp (vmul_sup (dv_sup hx))
theorem fadd_comm (x y : Nat) : fadd p m x y = fadd p m y x := by unfold fadd; rw [vadd_comm]
theorem fadd_assoc (hp : 0 < p) {x y z : Nat} (hx : x < p ^ m) (hy : y < p ^ m) (hz : z < p ^ m) : fadd p m (fadd p m x y) z = fadd p m x (fadd p m y z) := by
  show nm p m (vadd (dv p (fadd p m x y)) (dv p z)) = nm p m (vadd (dv p x) (dv p (fadd p m y z)))
  rw [nm_vcg ((dv_fadd hp hx hy).add (vcg.refl _)), nm_vcg ((vcg.refl (p := p) (dv p x)).add (dv_fadd hp hy hz)), vadd_assoc]
theorem dv_z (p : Nat) : dv p 0 = vz := by funext i; simp [dv, vz]
theorem fadd_zero (hp : 0 < p) {x : Nat} (hx : x < p ^ m) : fadd p m x 0 = x := by unfold fadd; rw [dv_z, vadd_z, nm_dv hp hx]
theorem fadd_neg (hp : 0 < p) {x : Nat} (hx : x < p ^ m) : fadd p m x (fneg p m x) = 0 := by
  show nm p m (vadd (dv p x) (dv p (fneg p m x))) = 0
  rw [nm_vcg ((vcg.refl (p := p) (dv p x)).add (dv_fneg hp hx))]
  have : vadd (dv p x) (vsm (-1) (dv p x)) = vz := by funext i; simp only [vadd, vsm, vz]; omega
  rw [this, ← dv_z p, nm_dv hp (by exact Nat.pow_pos hp)]
theorem fmul_comm {x y : Nat} (hx : x < p ^ m) (hy : y < p ^ m) : fmul p m c x y = fmul p m c y x := by
  unfold fmul; rw [vmul_comm (dv_sup hx) (dv_sup hy)]
theorem fmul_assoc (hp : 0 < p) {x y z : Nat} (hx : x < p ^ m) (hy : y < p ^ m) (hz : z < p ^ m) : fmul p m c (fmul p m c x y) z = fmul p m c x (fmul p m c y z) := by
  show nm p m (vmul m c (dv p (fmul p m c x y)) (dv p z)) = nm p m (vmul m c (dv p x) (dv p (fmul p m c y z)))
  rw [nm_vcg (vcg.mul (vcg.refl c) (dv_fmul hp hx) (vcg.refl _)), nm_vcg (vcg.mul (vcg.refl c) (vcg.refl (dv p x)) (dv_fmul hp hy)), vmul_assoc (dv_sup hx) (dv_sup hy) (dv_sup hz)]
theorem dv_one (hp : 2 ≤ p) : dv p 1 = e0 := by
  funext i
  cases i with
  | zero => rw [dv_zero, Nat.mod_eq_of_lt (by omega)]; rfl
  | succ i =>
    have : (1 : Nat) / p ^ (i + 1) = 0 := Nat.div_eq_of_lt (Nat.one_lt_pow (by omega) (by omega))
    simp [dv, this, e0]
theorem fmul_one (hp : 2 ≤ p) (hm : 0 < m) {x : Nat} (hx : x < p ^ m) : fmul p m c x 1 = x := by
  unfold fmul; rw [dv_one hp, vmul_one hm, nm_dv (by omega) hx]
theorem fmul_zero (hp : 0 < p) {x : Nat} (hx : x < p ^ m) : fmul p m c x 0 = 0 := by
  rw [fmul_comm hx (Nat.pow_pos hp)]
  unfold fmul; rw [dv_z]
  have : vmul m c vz (dv p x) = vz := opr_z ..
  rw [this, ← dv_z p, nm_dv hp (Nat.pow_pos hp)]
theorem fmul_add (hp : 0 < p) {x y z : Nat} (hx : x < p ^ m) (hy : y < p ^ m) (hz : z < p ^ m) : fmul p m c x (fadd p m y z) = fadd p m (fmul p m c x y) (fmul p m c x z) := by
  show nm p m (vmul m c (dv p x) (dv p (fadd p m y z))) = nm p m (vadd (dv p (fmul p m c x y)) (dv p (fmul p m c x z)))
  rw [nm_vcg (vcg.mul (vcg.refl c) (vcg.refl (dv p x)) (dv_fadd hp hy hz)), nm_vcg ((dv_fmul (c := c) hp hx).add (dv_fmul hp hx)), vmul_add]
end
/-- A finite commutative ring on the numbers below q. -/
structure CR (q : Nat) (A M : Nat → Nat → Nat) : Prop where
  q2 : 2 ≤ q
  Al : ∀ x y, A x y < q
  Ml : ∀ x y, M x y < q
  Ac : ∀ x y, A x y = A y x
  Aa : ∀ {x y z}, x < q → y < q → z < q → A (A x y) z = A x (A y z)
  Az : ∀ {x}, x < q → A x 0 = x
  An : ∀ {x}, x < q → ∃ y, y < q ∧ A x y = 0
  Mc : ∀ {x y}, x < q → y < q → M x y = M y x
  Ma : ∀ {x y z}, x < q → y < q → z < q → M (M x y) z = M x (M y z)
  M1 : ∀ {x}, x < q → M x 1 = x
  M0 : ∀ {x}, x < q → M x 0 = 0
  Md : ∀ {x y z}, x < q → y < q → z < q → M x (A y z) = A (M x y) (M x z)
theorem CR.mk' {p m : Nat} (c : Vec) (hp : 2 ≤ p) (hm : 0 < m) : CR (p ^ m) (fadd p m) (fmul p m c) where
  q2 := Nat.le_trans hp (by have := Nat.pow_le_pow_right (n := p) (by omega) hm; simpa using this)
  Al := fadd_lt (by omega)
  Ml := fmul_lt (by omega)
  Ac := fadd_comm
  Aa := fadd_assoc (by omega)
  Az := fadd_zero (by omega)
  An := fun {x} hx => ⟨fneg p m x, fneg_lt (by omega) x, fadd_neg (by omega) hx⟩
  Mc := fmul_comm
  Ma := fmul_assoc (by omega)
  M1 := fmul_one hp hm
  M0 := fmul_zero (by omega)
  Md := fmul_add (by omega)
end Go.Proofs.Ytinibbfpdbddpaa
set_option linter.unusedVariables false
namespace Go.Proofs.Ytinibbfpdbddpaa
/-! ### powers, generators, orders -/
def pw (M : Nat → Nat → Nat) (g : Nat) : Nat → Nat
  | 0 => 1
  | k + 1 => M (pw M g k) g
theorem php : ∀ (n : Nat) (f : Nat → Nat), (∀ i, i < n + 1 → f i < n) → ∃ i j, i < j ∧ j < n + 1 ∧ f i = f j
  | 0, f, h => absurd (h 0 (by omega)) (by omega)
  | n + 1, f, h => by
    by_cases hc : ∃ i, i < n + 1 ∧ f i = f (n + 1)
    · obtain ⟨i, hi, he⟩ := hc; exact ⟨i, n + 1, hi, by omega, he⟩
    · have hv := h (n + 1) (by omega)
      obtain ⟨i, j, hij, hj, he⟩ := php n (fun i => if f i = n then f (n + 1) else f i) (fun i hi => by
        have hne : f i ≠ f (n + 1) := fun e => hc ⟨i, hi, e⟩
        have := h i (by omega)
        show (if f i = n then f (n + 1) else f i) < n
        split
        · omega
        · omega)
      refine ⟨i, j, hij, by omega, ?_⟩
      have hi1 : f i ≠ f (n + 1) := fun e => hc ⟨i, by omega, e⟩
      have hj1 : f j ≠ f (n + 1) := fun e => hc ⟨j, by omega, e⟩
      split at he <;> split at he <;> omega
theorem surj_of_inj {n : Nat} {f : Nat → Nat} (hb : ∀ i, i < n → f i < n) (hi : ∀ i j, i < j → j < n → f i ≠ f j) {y : Nat} (hy : y < n) : ∃ i, i < n ∧ f i = y := by
  obtain ⟨i, j, hij, hj, he⟩ := php n (fun i => if i < n then f i else y) (fun i _ => by
    show (if i < n then f i else y) < n
    split
    · rename_i h; exact hb i h
    · exact hy)
  rcases Nat.lt_or_ge j n with h | h
  · rw [if_pos h, if_pos (show i < n by omega)] at he; exact absurd he (hi i j hij h)
  · rw [if_neg (show ¬ j < n by omega), if_pos (show i < n by omega)] at he; exact ⟨i, by omega, he⟩
/-! sums and counts -/
def nsum (f : Nat → Nat) : Nat → Nat
  | 0 => 0
  | n + 1 => nsum f n + f n
theorem nsum_congr {f g : Nat → Nat} : ∀ {n : Nat}, (∀ i, i < n → f i = g i) → nsum f n = nsum g n
  | 0, _ => rfl
  | n + 1, h => by simp only [nsum]; rw [nsum_congr (n := n) fun i hi => h i (by omega), h n (by omega)]
theorem nsum_add (f g : Nat → Nat) : ∀ n, nsum (fun i => f i + g i) n = nsum f n + nsum g n
  | 0 => rfl
  | n + 1 => by simp only [nsum]; rw [nsum_add f g n]; omega
theorem nsum_zero {f : Nat → Nat} : ∀ {n : Nat}, (∀ i, i < n → f i = 0) → nsum f n = 0
  | 0, _ => rfl
  | n + 1, h => by simp only [nsum]; rw [nsum_zero (n := n) fun i hi => h i (by omega), h n (by omega)]
theorem nsum_swap (f : Nat → Nat → Nat) (m : Nat) : ∀ n, nsum (fun i => nsum (f i) m) n = nsum (fun j => nsum (fun i => f i j) n) m
  | 0 => by
    show 0 = _
    exact (nsum_zero fun _ _ => rfl).symm
  | n + 1 => by
    show nsum (fun i => nsum (f i) m) n + nsum (f n) m = _
    rw [nsum_swap f m n, ← nsum_add]; rfl
theorem nsum_one {f : Nat → Nat} {k : Nat} : ∀ {n : Nat}, k < n → (∀ i, i < n → i ≠ k → f i = 0) → nsum f n = f k
  | 0, h, _ => by omega
  | n + 1, h, h0 => by
    simp only [nsum]
    rcases Nat.lt_or_ge k n with hk | hk
    · rw [nsum_one (n := n) hk fun i hi => h0 i (by omega), h0 n (by omega) (by omega)]; rfl
    · have : k = n := by omega
      subst this
      rw [nsum_zero fun i hi => h0 i (by omega) (by omega), Nat.zero_add]
theorem nsum_perm {n : Nat} {f h : Nat → Nat} (hb : ∀ i, i < n → f i < n) (hi : ∀ i j, i < j → j < n → f i ≠ f j) : nsum (fun i => h (f i)) n = nsum h n := by
  have e1 : nsum (fun i => h (f i)) n = nsum (fun i => nsum (fun y => if f i = y then h y else 0) n) n := nsum_congr fun i hin => by
    rw [nsum_one (k := f i) (hb i hin) (fun y _ hy => if_neg (Ne.symm hy)), if_pos rfl]
  have e2 : nsum (fun y => nsum (fun i => if f i = y then h y else 0) n) n = nsum h n := nsum_congr fun y hy => by
    obtain ⟨k, hk, hf⟩ := surj_of_inj hb hi hy
    rw [nsum_one (k := k) hk (fun i hin hik => if_neg fun e => by
      rcases Nat.lt_or_ge i k with h1 | h1
      · exact hi i k h1 hk (e.trans hf.symm)
      · exact hi k i (by omega) hin (hf.trans e.symm)), if_pos hf]
  rw [e1, nsum_swap (fun i y => if f i = y then h y else 0), e2]
section
variable {q : Nat} {A M : Nat → Nat → Nat} (R : CR q A M)
include R
namespace CR
theorem one_lt : 1 < q := R.q2
theorem pos : 0 < q := by have := R.q2; omega
theorem I1 {x : Nat} (hx : x < q) : M 1 x = x := by rw [R.Mc R.one_lt hx, R.M1 hx]
theorem Z0 {x : Nat} (hx : x < q) : M 0 x = 0 := by rw [R.Mc R.pos hx, R.M0 hx]
theorem zA {x : Nat} (hx : x < q) : A 0 x = x := by rw [R.Ac, R.Az hx]
theorem pw_lt (g : Nat) : ∀ k, pw M g k < q
  | 0 => R.one_lt
  | k + 1 => R.Ml _ _
theorem pw_one {g : Nat} (hg : g < q) : pw M g 1 = g := R.I1 hg
theorem pw_add {g : Nat} (hg : g < q) (i : Nat) : ∀ j, pw M g (i + j) = M (pw M g i) (pw M g j)
  | 0 => (R.M1 (R.pw_lt g i)).symm
  | j + 1 => by
    show M (pw M g (i + j)) g = M (pw M g i) (M (pw M g j) g)
    rw [pw_add hg i j, R.Ma (R.pw_lt g i) (R.pw_lt g j) hg]
theorem pw_pw {g : Nat} (hg : g < q) (i : Nat) : ∀ j, pw M (pw M g i) j = pw M g (i * j)
  | 0 => rfl
  | j + 1 => by
    show M (pw M (pw M g i) j) (pw M g i) = _
    rw [pw_pw hg i j, ← R.pw_add hg]; rfl
theorem one_pw : ∀ j, pw M 1 j = 1
  | 0 => rfl
  | j + 1 => by show M (pw M 1 j) 1 = 1; rw [one_pw j, R.M1 R.one_lt]
theorem mul_pw {x y : Nat} (hx : x < q) (hy : y < q) : ∀ n, pw M (M x y) n = M (pw M x n) (pw M y n)
  | 0 => (R.M1 R.one_lt).symm
  | n + 1 => by
    show M (pw M (M x y) n) (M x y) = M (M (pw M x n) x) (M (pw M y n) y)
    have h1 := R.pw_lt x n
    have h2 := R.pw_lt y n
    rw [mul_pw hx hy n, R.Ma h1 h2 (R.Ml x y), ← R.Ma h2 hx hy, R.Mc h2 hx, R.Ma hx h2 hy, ← R.Ma h1 hx (R.Ml _ _)]
theorem zero_pw {n : Nat} (h : 0 < n) : pw M 0 n = 0 := by
  cases n with
  | zero => omega
  | succ n => exact R.M0 (R.pw_lt 0 n)
end CR
end
/-- g has the order q - 1 -/
structure Gn (q : Nat) (M : Nat → Nat → Nat) (g : Nat) : Prop where
  lt : g < q
  one : pw M g (q - 1) = 1
  no : ∀ k, 0 < k → k < q - 1 → pw M g k ≠ 1
namespace Gn
variable {q g : Nat} {A M : Nat → Nat → Nat}
theorem per (G : Gn q M g) (R : CR q A M) (i k : Nat) : pw M g (i + (q - 1) * k) = pw M g i := by
  rw [R.pw_add G.lt, ← R.pw_pw G.lt, G.one, R.one_pw, R.M1 (R.pw_lt g i)]
theorem modp (G : Gn q M g) (R : CR q A M) (i : Nat) : pw M g (i % (q - 1)) = pw M g i := by
  have := G.per R (i % (q - 1)) (i / (q - 1))
  rw [Nat.mod_add_div] at this; exact this.symm
theorem ne0 (G : Gn q M g) (R : CR q A M) (k : Nat) : pw M g k ≠ 0 := fun h => by
  have h1 := G.per R 0 (k + 1)
  have hq := R.q2
  rw [Nat.zero_add] at h1
  have : (q - 1) * (k + 1) = k + ((q - 1) * (k + 1) - k) := by
    have : k + 1 ≤ (q - 1) * (k + 1) := Nat.le_mul_of_pos_left _ (by omega)
    omega
  rw [this, R.pw_add G.lt, h, R.Z0 (R.pw_lt g _)] at h1
  exact absurd h1 (by show ¬ (0 : Nat) = 1; omega)
theorem inj (G : Gn q M g) (R : CR q A M) {i j : Nat} (hij : i < j) (hj : j < q - 1) : pw M g i ≠ pw M g j := fun h => by
  have e1 : M (pw M g i) (pw M g (q - 1 - i)) = 1 := by rw [← R.pw_add G.lt, show i + (q - 1 - i) = q - 1 by omega, G.one]
  have e2 : M (pw M g j) (pw M g (q - 1 - i)) = pw M g (j - i) := by
    rw [← R.pw_add G.lt, show j + (q - 1 - i) = (j - i) + (q - 1) * 1 by omega, G.per R]
  rw [h] at e1
  exact G.no (j - i) (by omega) (by omega) (e2.symm.trans e1)
theorem surj (G : Gn q M g) (R : CR q A M) {x : Nat} (h0 : 0 < x) (hx : x < q) : ∃ k, k < q - 1 ∧ pw M g k = x := by
  obtain ⟨i, hi, he⟩ := surj_of_inj (n := q - 1) (f := fun k => pw M g k - 1) (fun i hi => by
    have := R.pw_lt g i; have := G.ne0 R i
    show pw M g i - 1 < q - 1; omega) (fun i j hij hj he => by
    have h1 := G.ne0 R i; have h2 := G.ne0 R j
    exact G.inj R hij hj (by omega)) (y := x - 1) (by omega)
  have := G.ne0 R i
  exact ⟨i, hi, by omega⟩
open Classical in
/-- the logarithm -/
noncomputable def lg (q : Nat) (M : Nat → Nat → Nat) (g x : Nat) : Nat := if h : ∃ k, k < q - 1 ∧ pw M g k = x then Classical.choose h else 0
theorem lg_spec (G : Gn q M g) (R : CR q A M) {x : Nat} (h0 : 0 < x) (hx : x < q) : lg q M g x < q - 1 ∧ pw M g (lg q M g x) = x := by
  have h := G.surj R h0 hx
  unfold lg; rw [dif_pos h]
  exact Classical.choose_spec h
theorem lg_eq (G : Gn q M g) (R : CR q A M) {k : Nat} (hk : k < q - 1) : lg q M g (pw M g k) = k := by
  obtain ⟨h1, h2⟩ := G.lg_spec R (Nat.pos_of_ne_zero (G.ne0 R k)) (R.pw_lt g k)
  rcases Nat.lt_trichotomy (lg q M g (pw M g k)) k with h | h | h
  · exact absurd h2 (G.inj R h hk)
  · exact h
  · exact absurd h2.symm (G.inj R h h1)
/-- every element but 0 has a period -/
theorem xone (G : Gn q M g) (R : CR q A M) {x : Nat} (h0 : 0 < x) (hx : x < q) : pw M x (q - 1) = 1 := by
  obtain ⟨k, hk, rfl⟩ := G.surj R h0 hx
  rw [R.pw_pw G.lt, Nat.mul_comm, ← R.pw_pw G.lt, G.one, R.one_pw]
theorem xq (G : Gn q M g) (R : CR q A M) {x : Nat} (hx : x < q) : pw M x q = x := by
  have hq := R.q2
  rcases Nat.eq_zero_or_pos x with rfl | h0
  · exact R.zero_pw (by omega)
  · have : q = (q - 1) + 1 := by omega
    rw [this]; show M (pw M x (q - 1)) x = x
    rw [G.xone R h0 hx, R.I1 hx]
end Gn
end Go.Proofs.Ytinibbfpdbddpaa
