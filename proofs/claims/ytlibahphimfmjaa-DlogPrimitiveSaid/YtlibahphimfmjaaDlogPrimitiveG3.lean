/- Contracts of functions of the program, and what they lean on: D2. -/
import Derived.Test.YtlibahphimfmjaaDlogPrimitiveG2
set_option linter.unusedSimpArgs false
set_option linter.unusedVariables false
namespace Go.Proofs.Ytlibahphimfmjaa
open Go.RowKit
def V_checkB (x : Int) (Pf : Int) (Mf : Int) (mf : List Int) (Q : Bool → Prop) : Prop :=
  ((x < (0 : Int)) → Q true) ∧ (¬ (x < (0 : Int)) → (Q (decide (Pf ≤ x))))
theorem ok_checkB {w : World} {Q : Bool → Prop} {x : Int} {Pf : Int} {Mf : Int} {mf : List Int} {af : Addr} {Bf Cf : Nat} {Af : Option Addr} {nf kf : Nat} (hcf : Rd Cf w 3 (some af) 1 1 [.int .i64 Pf, .int .i64 Mf, .slice Af nf kf]) (hmf : Rd Bf w 1 Af nf kf (is mf)) (hv : V_checkB x Pf Mf mf Q) :
    Calls Try.prog 73 #[.int .i64 x, .pointer (some af)] w fun e w' => ∃ v Qr, e = .returned v ∧ w.grownBy w' none ∧ Rows w.heap.size none w' Qr ∧ News w.heap.size Qr ∧ ∃ (r0 : Bool), v = .bool r0 ∧ Qr = [] ∧ Q r0 := by
  have hnf := hmf.ilen
  subst hnf
  refine calls_swap ?_
  refine calls_of_W (vs := [.int .i64 x, .pointer (some af)]) [3] Try.func73 rfl rfl rfl rfl ?_
  have hS := St.start w
  unfold V_checkB at hv
  refine W.seq ?_
  refine W.region ?_
  refine WL.assign rfl rfl ?_
  refine WL.done ?_
  refine W.seq ?_
  refine W.region ?_
  refine WL.move rfl rfl ?_
  refine WL.lssD rfl rfl rfl ?_
  refine WL.move rfl rfl ?_
  by_cases g11 : x < (0 : Int)
  · have hv := hv.1 g11
    rw [decide_eq_true g11]
    refine WL.pass rfl rfl rfl ?_
    refine WL.pass rfl rfl rfl ?_
    refine WL.pass rfl rfl rfl ?_
    refine WL.pass rfl rfl rfl ?_
    refine WL.pick rfl rfl rfl ?_
    refine WL.assign rfl rfl ?_
    refine WL.done ?_
    refine W.ret ?_
    refine ⟨_, rfl, Fin.nil ?_⟩
    exact ⟨_, hS.ext, (hS.pick [] rfl).rows, News.of (hS.pick [] rfl).rows rfl, ⟨true, rfl, rfl, hv⟩⟩
  · have hv := hv.2 g11
    rw [decide_eq_false g11]
    refine WL.take rfl ?_
    refine WL.move rfl rfl ?_
    refine WL.take rfl ?_
    refine WL.fieldA (off := 0) Try.fla24_0 rfl rfl ?_
    refine WL.take rfl ?_
    refine WL.load Try.underlying3 rfl rfl (Rd.at_ (hS.ro hcf) (j := 0) rfl) rfl ?_
    refine WL.take rfl ?_
    refine WL.geqD rfl rfl rfl ?_
    refine WL.pick rfl rfl rfl ?_
    refine WL.assign rfl rfl ?_
    refine WL.done ?_
    refine W.ret ?_
    refine ⟨_, rfl, Fin.nil ?_⟩
    exact ⟨_, hS.ext, (hS.pick [] rfl).rows, News.of (hS.pick [] rfl).rows rfl, ⟨(decide (Pf ≤ x)), rfl, rfl, hv⟩⟩

def V_dividesB (x : Int) (Q : Bool → Prop) : Prop :=
  Q (decide (x ≠ (0 : Int)))
theorem ok_dividesB {w : World} {Q : Bool → Prop} {x : Int}  (hv : V_dividesB x Q) :
    Calls Try.prog 89 #[.int .i64 x] w fun e w' => ∃ v Qr, e = .returned v ∧ w.grownBy w' none ∧ Rows w.heap.size none w' Qr ∧ News w.heap.size Qr ∧ ∃ (r0 : Bool), v = .bool r0 ∧ Qr = [] ∧ Q r0 := by
  refine calls_swap ?_
  refine calls_of_W (vs := [.int .i64 x]) [2] Try.func89 rfl rfl rfl rfl ?_
  have hS := St.start w
  unfold V_dividesB at hv
  refine W.seq ?_
  refine W.region ?_
  refine WL.assign rfl rfl ?_
  refine WL.done ?_
  refine W.seq ?_
  refine W.region ?_
  refine WL.move rfl rfl ?_
  refine WL.neqD rfl rfl rfl ?_
  refine WL.assign rfl rfl ?_
  refine WL.done ?_
  refine W.ret ?_
  refine ⟨_, rfl, Fin.nil ?_⟩
  exact ⟨_, hS.ext, (hS.pick [] rfl).rows, News.of (hS.pick [] rfl).rows rfl, ⟨(decide (x ≠ (0 : Int))), rfl, rfl, hv⟩⟩

def V_index (l : List Int) (p : Int → (Bool → Prop) → Prop) (Q : Int → Prop) : Prop :=
  ∃ (I14 : Int → Prop) (μ15 : Int → Nat), I14 (0 : Int) ∧ ∀ (z13 : Int), (I14 z13 → (((z13 < ((l.length : Nat) : Int)) → ((0 ≤ z13 ∧ z13 < (l.length : Nat)) ∧ (p (gi l z13) (fun b20 => ((b20 = true) → Q z13) ∧ (b20 = false → ((I64 (z13 + (1 : Int))) ∧ (I14 (z13 + (1 : Int)) ∧ μ15 (z13 + (1 : Int)) < μ15 z13))))))) ∧ (¬ (z13 < ((l.length : Nat) : Int)) → (Q (-1 : Int)))))
theorem ok_index {w : World} {Q : Int → Prop} {l : List Int} {p : Int → (Bool → Prop) → Prop} {Bl : Nat} {Al : Option Addr} {nl kl : Nat} (hl : Rd Bl w 1 Al nl kl (is l)) {cfp : Nat} {cgp : Func} {ccp : Code} {csp : List Value} (hcfp : Try.prog.funcs[cfp]? = some cgp) (hcbp : cgp.body = some ccp) (hcnp : (cgp.name == "runtime.NumGoroutine") = false) (hclp : ∀ (wc : World) (xc : Int) (Qc : Bool → Prop), w.grownBy wc none → p xc Qc → Calls Try.prog cfp (.int .i64 xc :: csp).toArray wc fun e w' => ∃ v Qr, e = .returned v ∧ wc.grownBy w' none ∧ Rows wc.heap.size none w' Qr ∧ News wc.heap.size Qr ∧ ∃ b : Bool, v = .bool b ∧ Qr = [] ∧ Qc b) (hv : V_index l p Q) :
    Calls Try.prog 83 #[.slice Al nl kl, .func (.func cfp) #[] csp.toArray] w fun e w' => ∃ v Qr, e = .returned v ∧ w.grownBy w' none ∧ Rows w.heap.size none w' Qr ∧ News w.heap.size Qr ∧ ∃ (r0 : Int), v = .int .i64 r0 ∧ Qr = [] ∧ Q r0 := by
  have hnl := hl.ilen
  subst hnl
  refine calls_swap ?_
  refine calls_of_W (vs := [.slice Al l.length kl, .func (.func cfp) #[] csp.toArray]) [4] Try.func83 rfl rfl rfl rfl ?_
  have hS := St.start w
  unfold V_index at hv
  refine W.seq ?_
  refine W.region ?_
  refine WL.assign rfl rfl ?_
  refine WL.done ?_
  refine W.seq ?_
  refine W.seq ?_
  refine W.region ?_
  refine WL.move rfl rfl ?_
  refine WL.len Try.underlying22 rfl rfl ?_
  refine WL.move rfl rfl ?_
  refine WL.done ?_
  refine W.block ?_
  obtain ⟨I14, μ15, hv, hk23⟩ := hv
  change St _ _ _ _ [] at hS
  refine W.loop (σ := Int) (fun z13 w1 => I14 z13 ∧ St TT w none w1 []) (fun z13 => [(0, .slice Al l.length kl), (1, .func (.func cfp) #[] csp.toArray), (4, .int .i64 (0 : Int)), (7, .int .i64 ((l.length : Nat) : Int)), (8, .int .i64 z13)]) (fun z13 => μ15 z13) (0 : Int) ⟨hv, hS⟩ ⟨rfl, rfl, rfl, rfl, rfl, trivial⟩ ?_
  rintro z13 w16 ⟨hv, hS⟩
  have hv := hk23 z13 hv
  refine W.seq ?_
  refine W.region ?_
  refine WL.lssD rfl rfl rfl ?_
  refine WL.done ?_
  refine W.seq ?_
  refine W.cond2 rfl (fun c17 => ?_) (fun c17 => ?_)
  · have hv := hv.1 (of_decide_eq_true c17)
    refine W.skip ?_
    refine W.seq ?_
    refine W.block ?_
    refine W.seq ?_
    refine W.region ?_
    refine WL.move rfl rfl ?_
    refine WL.assign rfl rfl ?_
    refine WL.done ?_
    refine W.seq ?_
    refine W.region ?_
    refine WL.move rfl rfl ?_
    refine WL.move rfl rfl ?_
    refine WL.move rfl rfl ?_
    obtain ⟨o18, hv⟩ := hv
    refine SL.index Try.underlying22 Try.el3 (hS.ro hl) rfl rfl o18 rfl ?_
    refine WL.load Try.underlying3 rfl rfl (Rd.gi (hS.ro hl) o18) rfl ?_
    refine SL.callc (vs := [.int .i64 (gi l z13)]) (cs := csp) hS (hclp _ _ _ hS.ext hv) rfl hcfp hcbp hcnp rfl rfl ?_
    rintro _ _ w19 ⟨b20, rfl, rfl, hv⟩ hGw19 hS
    change St _ _ _ _ [] at hS
    refine WL.done ?_
    refine W.cond2 rfl (fun c21 => ?_) (fun c21 => ?_)
    · have hv := hv.1 (c21)
      refine W.seq ?_
      refine W.region ?_
      refine WL.move rfl rfl ?_
      refine WL.assign rfl rfl ?_
      refine WL.done ?_
      refine W.ret ?_
      refine ⟨_, rfl, Fin.nil ?_⟩
      exact ⟨_, hS.ext, (hS.pick [] rfl).rows, News.of (hS.pick [] rfl).rows rfl, ⟨z13, rfl, rfl, hv⟩⟩
    · have hv := hv.2 (c21)
      refine W.skip ?_
      refine W.region ?_
      obtain ⟨o22, hv⟩ := hv
      refine WL.add (r := (z13 + (1 : Int))) rfl rfl (wr o22) rfl ?_
      refine WL.move rfl rfl ?_
      refine WL.done ?_
      change St _ _ _ _ [] at hS
      exact ⟨(z13 + (1 : Int)), ⟨rfl, rfl, rfl, rfl, rfl, trivial⟩, hv.2, rfl, hv.1, hS⟩
  · have hv := hv.2 (of_decide_eq_false c17)
    refine W.exit ?_
    refine W.seq ?_
    refine W.region ?_
    refine WL.assign rfl rfl ?_
    refine WL.done ?_
    refine W.ret ?_
    refine ⟨_, rfl, Fin.nil ?_⟩
    exact ⟨_, hS.ext, (hS.pick [] rfl).rows, News.of (hS.pick [] rfl).rows rfl, ⟨(-1 : Int), rfl, rfl, hv⟩⟩

def V_contains (l : List Int) (p : Int → (Bool → Prop) → Prop) (Q : Bool → Prop) : Prop :=
  V_index l p (fun r12 => Q (decide ((0 : Int) ≤ r12)))
theorem ok_contains {w : World} {Q : Bool → Prop} {l : List Int} {p : Int → (Bool → Prop) → Prop} {Bl : Nat} {Al : Option Addr} {nl kl : Nat} (hl : Rd Bl w 1 Al nl kl (is l)) {cfp : Nat} {cgp : Func} {ccp : Code} {csp : List Value} (hcfp : Try.prog.funcs[cfp]? = some cgp) (hcbp : cgp.body = some ccp) (hcnp : (cgp.name == "runtime.NumGoroutine") = false) (hclp : ∀ (wc : World) (xc : Int) (Qc : Bool → Prop), w.grownBy wc none → p xc Qc → Calls Try.prog cfp (.int .i64 xc :: csp).toArray wc fun e w' => ∃ v Qr, e = .returned v ∧ wc.grownBy w' none ∧ Rows wc.heap.size none w' Qr ∧ News wc.heap.size Qr ∧ ∃ b : Bool, v = .bool b ∧ Qr = [] ∧ Qc b) (hv : V_contains l p Q) :
    Calls Try.prog 72 #[.slice Al nl kl, .func (.func cfp) #[] csp.toArray] w fun e w' => ∃ v Qr, e = .returned v ∧ w.grownBy w' none ∧ Rows w.heap.size none w' Qr ∧ News w.heap.size Qr ∧ ∃ (r0 : Bool), v = .bool r0 ∧ Qr = [] ∧ Q r0 := by
  have hnl := hl.ilen
  subst hnl
  refine calls_swap ?_
  refine calls_of_W (vs := [.slice Al l.length kl, .func (.func cfp) #[] csp.toArray]) [4] Try.func72 rfl rfl rfl rfl ?_
  have hS := St.start w
  unfold V_contains at hv
  refine W.seq ?_
  refine W.region ?_
  refine WL.assign rfl rfl ?_
  refine WL.done ?_
  refine W.seq ?_
  refine W.region ?_
  refine WL.move rfl rfl ?_
  refine WL.move rfl rfl ?_
  refine SL.call hS (ok_index (hS.ro hl) hcfp hcbp hcnp (fun wc xc Qc hg hv => hclp wc xc Qc (ext_trans hS.ext hg) hv) hv) Try.func83 rfl Try.nm83 rfl rfl ?_
  rintro _ _ w11 ⟨r12, rfl, rfl, hv⟩ hGw11 hS
  change St _ _ _ _ [] at hS
  refine WL.geqD rfl rfl rfl ?_
  refine WL.assign rfl rfl ?_
  refine WL.done ?_
  refine W.ret ?_
  refine ⟨_, rfl, Fin.nil ?_⟩
  exact ⟨_, hS.ext, (hS.pick [] rfl).rows, News.of (hS.pick [] rfl).rows rfl, ⟨(decide ((0 : Int) ≤ r12)), rfl, rfl, hv⟩⟩

def V_divides (p : Int) (l : List Int) (o : List Int) (Q : Bool → Prop) : Prop :=
  V_clone o (fun x12 => (I64 (((x12.length : Nat) : Int) - (1 : Int))) ∧ (∃ (I23 : List Int → Int → Prop) (μ24 : List Int → Int → Nat), I23 x12 (((x12.length : Nat) : Int) - (1 : Int)) ∧ ∀ (x21 : List Int) (z22 : Int), (I23 x21 z22 → (((((l.length : Nat) : Int) ≤ z22) → (∃ (I33 : List Int → Int → Prop) (μ34 : List Int → Int → Nat), I33 x21 (0 : Int) ∧ ∀ (x31 : List Int) (z32 : Int), (I33 x31 z32 → (((z32 < ((l.length : Nat) : Int)) → ((0 ≤ z32 ∧ z32 < (l.length : Nat)) ∧ ((I64 (z22 - ((l.length : Nat) : Int))) ∧ ((I64 ((z22 - ((l.length : Nat) : Int)) + z32)) ∧ ((0 ≤ ((z22 - ((l.length : Nat) : Int)) + z32) ∧ ((z22 - ((l.length : Nat) : Int)) + z32) < (x12.length : Nat)) ∧ ((I64 (p - (gi l z32))) ∧ ((0 ≤ z22 ∧ z22 < (x12.length : Nat)) ∧ ((I64 ((p - (gi l z32)) * (gi x31 z22))) ∧ ((I64 ((gi x31 ((z22 - ((l.length : Nat) : Int)) + z32)) + ((p - (gi l z32)) * (gi x31 z22)))) ∧ ((p ≠ 0) ∧ ((0 ≤ ((z22 - ((l.length : Nat) : Int)) + z32) ∧ ((z22 - ((l.length : Nat) : Int)) + z32) < (x12.length : Nat)) ∧ ((I64 (z32 + (1 : Int))) ∧ (I33 (si x31 ((z22 - ((l.length : Nat) : Int)) + z32) (((gi x31 ((z22 - ((l.length : Nat) : Int)) + z32)) + ((p - (gi l z32)) * (gi x31 z22))).tmod p)) (z32 + (1 : Int)) ∧ μ34 (si x31 ((z22 - ((l.length : Nat) : Int)) + z32) (((gi x31 ((z22 - ((l.length : Nat) : Int)) + z32)) + ((p - (gi l z32)) * (gi x31 z22))).tmod p)) (z32 + (1 : Int)) < μ34 x31 z32))))))))))))) ∧ (¬ (z32 < ((l.length : Nat) : Int)) → ((I64 (z22 - (1 : Int))) ∧ (I23 x31 (z22 - (1 : Int)) ∧ μ24 x31 (z22 - (1 : Int)) < μ24 x21 z22))))))) ∧ (¬ (((l.length : Nat) : Int) ≤ z22) → ((0 ≤ ((l.length : Nat) : Int) ∧ ((l.length : Nat) : Int) ≤ (x12.length : Nat)) ∧ (V_contains (x21.take ((l.length : Nat) : Int).toNat) (fun xc Qc => V_dividesB xc  Qc) (fun r71 => Q (!r71)))))))))
theorem ok_divides {w : World} {Q : Bool → Prop} {p : Int} {l : List Int} {o : List Int} {Bl : Nat} {Al : Option Addr} {nl kl : Nat} (hl : Rd Bl w 1 Al nl kl (is l)) {Bo : Nat} {Ao : Option Addr} {no ko : Nat} (ho : Rd Bo w 1 Ao no ko (is o)) (hv : V_divides p l o Q) :
    Calls Try.prog 84 #[.int .i64 p, .slice Al nl kl, .slice Ao no ko] w fun e w' => ∃ v Qr, e = .returned v ∧ w.grownBy w' none ∧ Rows w.heap.size none w' Qr ∧ News w.heap.size Qr ∧ ∃ (r0 : Bool), v = .bool r0 ∧ Qr = [] ∧ Q r0 := by
  have hnl := hl.ilen
  subst hnl
  have hno := ho.ilen
  subst hno
  refine calls_swap ?_
  refine calls_of_W (vs := [.int .i64 p, .slice Al l.length kl, .slice Ao o.length ko]) [6] Try.func84 rfl rfl rfl rfl ?_
  have hS := St.start w
  unfold V_divides at hv
  refine W.seq ?_
  refine W.region ?_
  refine WL.assign rfl rfl ?_
  refine WL.done ?_
  refine W.seq ?_
  refine W.region ?_
  refine WL.move rfl rfl ?_
  refine SL.call hS (ok_clone (hS.ro ho) hv) Try.func75 rfl Try.nm75 rfl rfl ?_
  rintro _ _ w11 ⟨x12, A13, k14, rfl, rfl, hv⟩ hGw11 hS
  change St _ _ _ _ [.row 3 1 A13 x12.length k14 (is x12)] at hS
  refine WL.assign rfl rfl ?_
  refine WL.done ?_
  refine W.seq ?_
  refine W.seq ?_
  refine W.region ?_
  refine WL.move rfl rfl ?_
  refine WL.len Try.underlying22 rfl rfl ?_
  obtain ⟨o16, hv⟩ := hv
  refine WL.sub (r := (((x12.length : Nat) : Int) - (1 : Int))) rfl rfl (wr o16) rfl ?_
  refine WL.assign rfl rfl ?_
  refine WL.done ?_
  refine W.block ?_
  obtain ⟨I23, μ24, hv, hk72⟩ := hv
  change St _ _ _ _ [.row 3 1 A13 x12.length k14 (is x12)] at hS
  refine W.loop (σ := List Int × Int) (fun q w1 => match q with | (x21, z22) => I23 x21 z22 ∧ St TT w none w1 [.row 3 1 A13 x12.length k14 (is x21)]) (fun q => match q with | (x21, z22) => [(0, .int .i64 p), (1, .slice Al l.length kl), (6, .bool false), (7, .slice A13 x12.length k14), (8, .int .i64 z22)]) (fun q => match q with | (x21, z22) => μ24 x21 z22) (x12, (((x12.length : Nat) : Int) - (1 : Int))) ⟨hv, hS⟩ ⟨rfl, rfl, rfl, rfl, rfl, trivial⟩ ?_
  rintro ⟨x21, z22⟩ w25 ⟨hv, hS⟩
  have hv := hk72 x21 z22 hv
  refine W.seq ?_
  refine W.seq ?_
  refine W.region ?_
  refine WL.move rfl rfl ?_
  refine WL.move rfl rfl ?_
  refine WL.len Try.underlying22 rfl rfl ?_
  refine WL.geqD rfl rfl rfl ?_
  refine WL.done ?_
  refine W.cond2 rfl (fun c26 => ?_) (fun c26 => ?_)
  · have hv := hv.1 (of_decide_eq_true c26)
    refine W.skip ?_
    refine W.seq ?_
    refine W.block ?_
    refine W.seq ?_
    refine W.region ?_
    refine WL.move rfl rfl ?_
    refine WL.len Try.underlying22 rfl rfl ?_
    refine WL.move rfl rfl ?_
    refine WL.done ?_
    refine W.block ?_
    obtain ⟨I33, μ34, hv, hk68⟩ := hv
    change St _ _ _ _ [.row 3 1 A13 x12.length k14 (is x21)] at hS
    refine W.loop (σ := List Int × Int) (fun q w1 => match q with | (x31, z32) => I33 x31 z32 ∧ St TT w none w1 [.row 3 1 A13 x12.length k14 (is x31)]) (fun q => match q with | (x31, z32) => [(0, .int .i64 p), (1, .slice Al l.length kl), (6, .bool false), (7, .slice A13 x12.length k14), (8, .int .i64 z22), (20, .bool (decide (((l.length : Nat) : Int) ≤ z22))), (23, .slice Al l.length kl), (24, .int .i64 ((l.length : Nat) : Int)), (25, .int .i64 z32)]) (fun q => match q with | (x31, z32) => μ34 x31 z32) (x21, (0 : Int)) ⟨hv, hS⟩ ⟨rfl, rfl, rfl, rfl, rfl, rfl, rfl, rfl, rfl, trivial⟩ ?_
    rintro ⟨x31, z32⟩ w35 ⟨hv, hS⟩
    have hv := hk68 x31 z32 hv
    refine W.seq ?_
    refine W.region ?_
    refine WL.lssD rfl rfl rfl ?_
    refine WL.done ?_
    refine W.seq ?_
    refine W.cond2 rfl (fun c36 => ?_) (fun c36 => ?_)
    · have hv := hv.1 (of_decide_eq_true c36)
      refine W.skip ?_
      refine W.seq ?_
      refine W.block ?_
      refine W.seq ?_
      refine W.region ?_
      refine WL.move rfl rfl ?_
      obtain ⟨o37, hv⟩ := hv
      refine SL.index Try.underlying22 Try.el3 (hS.ro hl) rfl rfl o37 rfl ?_
      refine WL.load Try.underlying3 rfl rfl (Rd.gi (hS.ro hl) o37) rfl ?_
      refine WL.assign rfl rfl ?_
      refine WL.assign rfl rfl ?_
      refine WL.done ?_
      refine W.seq ?_
      refine W.region ?_
      refine WL.move rfl rfl ?_
      refine WL.move rfl rfl ?_
      refine WL.len Try.underlying22 rfl rfl ?_
      obtain ⟨o38, hv⟩ := hv
      refine WL.sub (r := (z22 - ((l.length : Nat) : Int))) rfl rfl (wr o38) rfl ?_
      refine WL.move rfl rfl ?_
      obtain ⟨o39, hv⟩ := hv
      refine WL.add (r := ((z22 - ((l.length : Nat) : Int)) + z32)) rfl rfl (wr o39) rfl ?_
      refine WL.assign rfl rfl ?_
      refine WL.done ?_
      obtain ⟨o45, hv⟩ := hv
      obtain ⟨o50, hv⟩ := hv
      obtain ⟨o54, hv⟩ := hv
      obtain ⟨o57, hv⟩ := hv
      obtain ⟨o59, hv⟩ := hv
      obtain ⟨o62, hv⟩ := hv
      have hS0 := hS
      refine W.drawX 17 (fun _ => false) (fun _ => none) [⟨[], [7], true⟩, ⟨[], [11], true⟩, ⟨[], [7], true⟩, ⟨[], [11], true⟩, ⟨[2, 3], [], true⟩, ⟨[4], [], false⟩, ⟨[], [0], true⟩, ⟨[], [10], true⟩, ⟨[6, 7], [], true⟩, ⟨[], [7], true⟩, ⟨[], [8], true⟩, ⟨[9, 10], [], true⟩, ⟨[11], [], false⟩, ⟨[8, 12], [], true⟩, ⟨[5, 13], [], true⟩, ⟨[], [0], true⟩, ⟨[14, 15], [], true⟩] [[(7, .slice A13 x12.length k14)], [(11, .int .i64 ((z22 - ((l.length : Nat) : Int)) + z32))], [(7, .slice A13 x12.length k14)], [(11, .int .i64 ((z22 - ((l.length : Nat) : Int)) + z32))], [], [], [(0, .int .i64 p)], [(10, .int .i64 (gi l z32))], [], [(7, .slice A13 x12.length k14)], [(8, .int .i64 z22)], [], [], [], [], [(0, .int .i64 p)], []] (fun iQ => [fun v _ => v = .slice A13 x12.length k14, fun v _ => v = .int .i64 ((z22 - ((l.length : Nat) : Int)) + z32), fun v _ => v = .slice A13 x12.length k14, fun v _ => v = .int .i64 ((z22 - ((l.length : Nat) : Int)) + z32), fun v _ => v = .pointer (some ((adOf A13).add (((z22 - ((l.length : Nat) : Int)) + z32).toNat))), fun v _ => v = .int .i64 (gi x31 ((z22 - ((l.length : Nat) : Int)) + z32)), fun v _ => v = .int .i64 p, fun v _ => v = .int .i64 (gi l z32), fun v _ => v = .int .i64 (p - (gi l z32)), fun v _ => v = .slice A13 x12.length k14, fun v _ => v = .int .i64 z22, fun v _ => v = .pointer (some ((adOf A13).add z22.toNat)), fun v _ => v = .int .i64 (gi x31 z22), fun v _ => v = .int .i64 ((p - (gi l z32)) * (gi x31 z22)), fun v _ => v = .int .i64 ((gi x31 ((z22 - ((l.length : Nat) : Int)) + z32)) + ((p - (gi l z32)) * (gi x31 z22))), fun v _ => v = .int .i64 p, fun v _ => v = .int .i64 (((gi x31 ((z22 - ((l.length : Nat) : Int)) + z32)) + ((p - (gi l z32)) * (gi x31 z22))).tmod p)].getD iQ (fun _ _ => True)) Try.mixed (by kernel_rfl) ?_ (by kernel_rfl) ?_ ?_
      · refine Vs_monoT _ ?_
        intro VQ hVQ vQ wQ1 wQ2 hQ1 hQ2
        simp only [List.mem_cons, List.not_mem_nil, or_false] at hVQ
        rcases hVQ with rfl | rfl | rfl | rfl | rfl | rfl | rfl | rfl | rfl | rfl | rfl | rfl | rfl | rfl | rfl | rfl | rfl
        · exact hQ1
        · exact hQ1
        · exact hQ1
        · exact hQ1
        · exact hQ1
        · exact hQ1
        · exact hQ1
        · exact hQ1
        · exact hQ1
        · exact hQ1
        · exact hQ1
        · exact hQ1
        · exact hQ1
        · exact hQ1
        · exact hQ1
        · exact hQ1
        · exact hQ1
      · refine ⟨⟨rfl, ⟨rfl, trivial⟩, ?_⟩, ⟨rfl, ⟨rfl, trivial⟩, ?_⟩, ⟨rfl, ⟨rfl, trivial⟩, ?_⟩, ⟨rfl, ⟨rfl, trivial⟩, ?_⟩, ⟨rfl, trivial, ?_⟩, ⟨rfl, trivial, ?_⟩, ⟨rfl, ⟨rfl, trivial⟩, ?_⟩, ⟨rfl, ⟨rfl, trivial⟩, ?_⟩, ⟨rfl, trivial, ?_⟩, ⟨rfl, ⟨rfl, trivial⟩, ?_⟩, ⟨rfl, ⟨rfl, trivial⟩, ?_⟩, ⟨rfl, trivial, ?_⟩, ⟨rfl, trivial, ?_⟩, ⟨rfl, trivial, ?_⟩, ⟨rfl, trivial, ?_⟩, ⟨rfl, ⟨rfl, trivial⟩, ?_⟩, ⟨rfl, trivial, ?_⟩, trivial⟩
        · intro w40 hE
          intro RR
          refine WL.move rfl rfl ?_
          exact WL.done ⟨_, rfl, rfl, rfl, (fun h => absurd h (by decide)), (fun j h => by cases h)⟩
        · intro w41 hE
          intro RR
          refine WL.move rfl rfl ?_
          exact WL.done ⟨_, rfl, rfl, rfl, (fun h => absurd h (by decide)), (fun j h => by cases h)⟩
        · intro w42 hE
          intro RR
          refine WL.move rfl rfl ?_
          exact WL.done ⟨_, rfl, rfl, rfl, (fun h => absurd h (by decide)), (fun j h => by cases h)⟩
        · intro w43 hE
          intro RR
          refine WL.move rfl rfl ?_
          exact WL.done ⟨_, rfl, rfl, rfl, (fun h => absurd h (by decide)), (fun j h => by cases h)⟩
        · intro w44 hE
          rintro _ rfl
          rintro _ rfl
          intro RR
          refine SL.index Try.underlying22 Try.el3 (hS.rd (i := 0) rfl) rfl rfl o45 rfl ?_
          exact WL.done ⟨_, rfl, rfl, rfl, (fun h => absurd h (by decide)), (fun j h => by cases h)⟩
        · intro w46 hE
          have hE := hE rfl
          have hS := hS.grow hE
          rintro _ rfl
          intro RR
          refine WL.load Try.underlying3 rfl rfl (Rd.gi (hS.rd (i := 0) rfl) o45) rfl ?_
          exact WL.done ⟨_, rfl, ext_refl _, rfl, (fun h => absurd h (by decide)), (fun j h => by cases h)⟩
        · intro w47 hE
          intro RR
          refine WL.move rfl rfl ?_
          exact WL.done ⟨_, rfl, rfl, rfl, (fun h => absurd h (by decide)), (fun j h => by cases h)⟩
        · intro w48 hE
          intro RR
          refine WL.move rfl rfl ?_
          exact WL.done ⟨_, rfl, rfl, rfl, (fun h => absurd h (by decide)), (fun j h => by cases h)⟩
        · intro w49 hE
          rintro _ rfl
          rintro _ rfl
          intro RR
          refine WL.sub (r := (p - (gi l z32))) rfl rfl (wr o50) rfl ?_
          exact WL.done ⟨_, rfl, rfl, rfl, (fun h => absurd h (by decide)), (fun j h => by cases h)⟩
        · intro w51 hE
          intro RR
          refine WL.move rfl rfl ?_
          exact WL.done ⟨_, rfl, rfl, rfl, (fun h => absurd h (by decide)), (fun j h => by cases h)⟩
        · intro w52 hE
          intro RR
          refine WL.move rfl rfl ?_
          exact WL.done ⟨_, rfl, rfl, rfl, (fun h => absurd h (by decide)), (fun j h => by cases h)⟩
        · intro w53 hE
          rintro _ rfl
          rintro _ rfl
          intro RR
          refine SL.index Try.underlying22 Try.el3 (hS.rd (i := 0) rfl) rfl rfl o54 rfl ?_
          exact WL.done ⟨_, rfl, rfl, rfl, (fun h => absurd h (by decide)), (fun j h => by cases h)⟩
        · intro w55 hE
          have hE := hE rfl
          have hS := hS.grow hE
          rintro _ rfl
          intro RR
          refine WL.load Try.underlying3 rfl rfl (Rd.gi (hS.rd (i := 0) rfl) o54) rfl ?_
          exact WL.done ⟨_, rfl, ext_refl _, rfl, (fun h => absurd h (by decide)), (fun j h => by cases h)⟩
        · intro w56 hE
          rintro _ rfl
          rintro _ rfl
          intro RR
          refine WL.mul (r := ((p - (gi l z32)) * (gi x31 z22))) rfl rfl (wr o57) rfl ?_
          exact WL.done ⟨_, rfl, rfl, rfl, (fun h => absurd h (by decide)), (fun j h => by cases h)⟩
        · intro w58 hE
          rintro _ rfl
          rintro _ rfl
          intro RR
          refine WL.add (r := ((gi x31 ((z22 - ((l.length : Nat) : Int)) + z32)) + ((p - (gi l z32)) * (gi x31 z22)))) rfl rfl (wr o59) rfl ?_
          exact WL.done ⟨_, rfl, rfl, rfl, (fun h => absurd h (by decide)), (fun j h => by cases h)⟩
        · intro w60 hE
          intro RR
          refine WL.move rfl rfl ?_
          exact WL.done ⟨_, rfl, rfl, rfl, (fun h => absurd h (by decide)), (fun j h => by cases h)⟩
        · intro w61 hE
          rintro _ rfl
          rintro _ rfl
          intro RR
          refine WL.rem (r := (((gi x31 ((z22 - ((l.length : Nat) : Int)) + z32)) + ((p - (gi l z32)) * (gi x31 z22))).tmod p)) rfl rfl o62 rfl rfl ?_
          exact WL.done ⟨_, rfl, rfl, rfl, (fun h => absurd h (by decide)), (fun j h => by cases h)⟩
      · intro vals w63 hT hVs hAp hCp
        have hS := hS.grow hT
        have hv0 : vals 0 = _ := hVs 0 (by decide)
        have hv1 : vals 1 = _ := hVs 1 (by decide)
        have hv2 : vals 2 = _ := hVs 2 (by decide)
        have hv3 : vals 3 = _ := hVs 3 (by decide)
        have hv4 : vals 4 = _ := hVs 4 (by decide)
        have hv5 : vals 5 = _ := hVs 5 (by decide)
        have hv6 : vals 6 = _ := hVs 6 (by decide)
        have hv7 : vals 7 = _ := hVs 7 (by decide)
        have hv8 : vals 8 = _ := hVs 8 (by decide)
        have hv9 : vals 9 = _ := hVs 9 (by decide)
        have hv10 : vals 10 = _ := hVs 10 (by decide)
        have hv11 : vals 11 = _ := hVs 11 (by decide)
        have hv12 : vals 12 = _ := hVs 12 (by decide)
        have hv13 : vals 13 = _ := hVs 13 (by decide)
        have hv14 : vals 14 = _ := hVs 14 (by decide)
        have hv15 : vals 15 = _ := hVs 15 (by decide)
        have hv16 : vals 16 = _ := hVs 16 (by decide)
        rw [show (List.filterMap (fun i => Option.map (fun t => (t, vals i)) (dstAt _ i)) (List.range _)) = [(36, .slice A13 x12.length k14), (37, .int .i64 ((z22 - ((l.length : Nat) : Int)) + z32)), (38, .slice A13 x12.length k14), (39, .int .i64 ((z22 - ((l.length : Nat) : Int)) + z32)), (40, .pointer (some ((adOf A13).add (((z22 - ((l.length : Nat) : Int)) + z32).toNat)))), (41, .int .i64 (gi x31 ((z22 - ((l.length : Nat) : Int)) + z32))), (42, .int .i64 p), (43, .int .i64 (gi l z32)), (44, .int .i64 (p - (gi l z32))), (45, .slice A13 x12.length k14), (46, .int .i64 z22), (47, .pointer (some ((adOf A13).add z22.toNat))), (48, .int .i64 (gi x31 z22)), (49, .int .i64 ((p - (gi l z32)) * (gi x31 z22))), (50, .int .i64 ((gi x31 ((z22 - ((l.length : Nat) : Int)) + z32)) + ((p - (gi l z32)) * (gi x31 z22)))), (51, .int .i64 p), (52, .int .i64 (((gi x31 ((z22 - ((l.length : Nat) : Int)) + z32)) + ((p - (gi l z32)) * (gi x31 z22))).tmod p))] from by
          show [(36, vals 0), (37, vals 1), (38, vals 2), (39, vals 3), (40, vals 4), (41, vals 5), (42, vals 6), (43, vals 7), (44, vals 8), (45, vals 9), (46, vals 10), (47, vals 11), (48, vals 12), (49, vals 13), (50, vals 14), (51, vals 15), (52, vals 16)] = _
          rw [hv0, hv1, hv2, hv3, hv4, hv5, hv6, hv7, hv8, hv9, hv10, hv11, hv12, hv13, hv14, hv15, hv16]]
        refine WA.step [17] (by decide +kernel) rfl ?_
        intro iQ hQ
        simp only [List.mem_cons, List.not_mem_nil, or_false] at hQ
        obtain rfl := hQ
        refine ⟨_, rfl, ?_⟩
        obtain ⟨o64, hv⟩ := hv
        refine SL.index Try.underlying22 Try.el3 (hS.rd (i := 0) rfl) rfl rfl o64 rfl ?_
        refine WL.done ?_
        refine WA.step [18] (by decide +kernel) rfl ?_
        intro iQ hQ
        simp only [List.mem_cons, List.not_mem_nil, or_false] at hQ
        obtain rfl := hQ
        refine ⟨_, rfl, ?_⟩
        refine SL.store (cs' := is (si x31 ((z22 - ((l.length : Nat) : Int)) + z32) (((gi x31 ((z22 - ((l.length : Nat) : Int)) + z32)) + ((p - (gi l z32)) * (gi x31 z22))).tmod p))) 0 ((z22 - ((l.length : Nat) : Int)) + z32).toNat hS rfl Try.el3 rfl rfl rfl (is_lt (hS.rd (i := 0) rfl) o64) (is_set _ _ _) ?_
        intro w65 hS
        refine WL.done ?_
        refine WA.done (by decide +kernel) ?_
        refine W.region ?_
        obtain ⟨o66, hv⟩ := hv
        refine WL.add (r := (z32 + (1 : Int))) rfl rfl (wr o66) rfl ?_
        refine WL.move rfl rfl ?_
        refine WL.done ?_
        change St _ _ _ _ [.row 3 1 A13 x12.length k14 (is (si x31 ((z22 - ((l.length : Nat) : Int)) + z32) (((gi x31 ((z22 - ((l.length : Nat) : Int)) + z32)) + ((p - (gi l z32)) * (gi x31 z22))).tmod p)))] at hS
        exact ⟨(si x31 ((z22 - ((l.length : Nat) : Int)) + z32) (((gi x31 ((z22 - ((l.length : Nat) : Int)) + z32)) + ((p - (gi l z32)) * (gi x31 z22))).tmod p), (z32 + (1 : Int))), ⟨rfl, rfl, rfl, rfl, rfl, rfl, rfl, rfl, rfl, trivial⟩, hv.2, rfl, hv.1, hS⟩
    · have hv := hv.2 (of_decide_eq_false c36)
      refine W.exit ?_
      refine W.region ?_
      refine WL.move rfl rfl ?_
      obtain ⟨o67, hv⟩ := hv
      refine WL.sub (r := (z22 - (1 : Int))) rfl rfl (wr o67) rfl ?_
      refine WL.assign rfl rfl ?_
      refine WL.done ?_
      change St _ _ _ _ [.row 3 1 A13 x12.length k14 (is x31)] at hS
      exact ⟨(x31, (z22 - (1 : Int))), ⟨rfl, rfl, rfl, rfl, rfl, trivial⟩, hv.2, rfl, hv.1, hS⟩
  · have hv := hv.2 (of_decide_eq_false c26)
    refine W.exit ?_
    refine W.seq ?_
    refine W.region ?_
    refine WL.move rfl rfl ?_
    refine WL.move rfl rfl ?_
    refine WL.len Try.underlying22 rfl rfl ?_
    obtain ⟨o69, hv⟩ := hv
    refine SL.slTo Try.underlying22 Try.el3 (hS.rd (i := 0) rfl) rfl rfl o69 rfl (x21.take ((l.length : Nat) : Int).toNat).length (pre_len (hS.rd (i := 0) rfl) o69) ?_
    refine SL.call hS (ok_contains (Rd.pre (hS.rd (i := 0) rfl) o69) Try.func89 rfl Try.nm89 (fun wc xc Qc hg hv => ok_dividesB  hv) hv) Try.func72 rfl Try.nm72 rfl rfl ?_
    rintro _ _ w70 ⟨r71, rfl, rfl, hv⟩ hGw70 hS
    change St _ _ _ _ [.row 3 1 A13 x12.length k14 (is x21)] at hS
    refine WL.not rfl rfl ?_
    refine WL.assign rfl rfl ?_
    refine WL.done ?_
    refine W.ret ?_
    refine ⟨_, rfl, Fin.nil ?_⟩
    exact ⟨_, hS.ext, (hS.pick [] rfl).rows, News.of (hS.pick [] rfl).rows rfl, ⟨(!r71), rfl, rfl, hv⟩⟩

def V_isIrreducible (Pf : Int) (Mf : Int) (mf : List Int) (Q : Bool → Prop) : Prop :=
  V_clone mf (fun x14 => (((x14.length : Nat) + (1 : Nat) : Int) * 8 ≤ 140737488355328) ∧ (∃ (I36 : Int → Int → Prop) (μ37 : Int → Int → Nat), I36 (1 : Int) Pf ∧ ∀ (z34 : Int) (z35 : Int), (I36 z34 z35 → ((I64 ((2 : Int) * z34)) ∧ (((((2 : Int) * z34) ≤ Mf) → (∃ (I44 : Int → Prop) (μ45 : Int → Nat), I44 (0 : Int) ∧ ∀ (z43 : Int), (I44 z43 → (((z43 < z35) → (∃ (x55 : List Int), V_digits Pf z34 z43 (fun q => q = x55) ∧ (∃ (r65 : Bool), V_divides Pf x55 (x14 ++ ([(1 : Int)] : List Int)) (fun q => q = r65) ∧ (((r65 = true) → Q false) ∧ (r65 = false → ((I64 (z43 + (1 : Int))) ∧ (I44 (z43 + (1 : Int)) ∧ μ45 (z43 + (1 : Int)) < μ45 z43))))))) ∧ (¬ (z43 < z35) → ((I64 (z34 + (1 : Int))) ∧ ((I64 (z35 * Pf)) ∧ (I36 (z34 + (1 : Int)) (z35 * Pf) ∧ μ37 (z34 + (1 : Int)) (z35 * Pf) < μ37 z34 z35)))))))) ∧ (¬ (((2 : Int) * z34) ≤ Mf) → Q true))))))
theorem ok_isIrreducible {w : World} {Q : Bool → Prop} {Pf : Int} {Mf : Int} {mf : List Int} {Bf : Nat} {Af : Option Addr} {nf kf : Nat} (hf : Rd Bf w 1 Af nf kf (is mf)) (hv : V_isIrreducible Pf Mf mf Q) :
    Calls Try.prog 74 #[.agg #[.int .i64 Pf, .int .i64 Mf, .slice Af nf kf]] w fun e w' => ∃ v Qr, e = .returned v ∧ w.grownBy w' none ∧ Rows w.heap.size none w' Qr ∧ News w.heap.size Qr ∧ ∃ (r0 : Bool), v = .bool r0 ∧ Qr = [] ∧ Q r0 := by
  have hnf := hf.ilen
  subst hnf
  refine calls_swap ?_
  refine calls_of_W (vs := [.agg #[.int .i64 Pf, .int .i64 Mf, .slice Af mf.length kf]]) [2] Try.func74 rfl rfl rfl rfl ?_
  have hS := St.start w
  unfold V_isIrreducible at hv
  refine W.seq ?_
  refine W.region ?_
  refine SL.box (z := 3) (cs := [.int .i64 Pf, .int .i64 Mf, .slice Af mf.length kf]) hS rfl rfl rfl rfl ?_
  intro g11 w12 hS
  refine WL.assign rfl rfl ?_
  refine WL.done ?_
  refine W.seq ?_
  refine W.region ?_
  refine WL.fieldA (off := 2) Try.fla24_2 rfl rfl ?_
  refine WL.load Try.underlying22 rfl rfl (Own.vcells (hS.own (i := 0) rfl) 2 _ rfl) rfl ?_
  refine SL.call hS (ok_clone (hS.ro hf) hv) Try.func75 rfl Try.nm75 rfl rfl ?_
  rintro _ _ w13 ⟨x14, A15, k16, rfl, rfl, hv⟩ hGw13 hS
  change St _ _ _ _ [.row 3 1 A15 x14.length k16 (is x14), .row 24 3 (some ⟨g11, 0, none⟩) 1 1 [.int .i64 Pf, .int .i64 Mf, .slice Af mf.length kf]] at hS
  refine SL.lit1 (vs := is ([(1 : Int)] : List Int)) hS Try.underlying22 Try.el3 rfl rfl rfl rfl (is_one _) rfl ?_
  intro A18 w19 hS
  obtain ⟨o21, hv⟩ := hv
  refine SL.append (cs := is x14) (cs' := is ([(1 : Int)] : List Int)) 1 ((x14 ++ ([(1 : Int)] : List Int)).length) (is (x14 ++ ([(1 : Int)] : List Int))) hS rfl Try.underlying22 Try.el3 (hS.rd (i := 0) rfl) (is_one _) rfl rfl (apk o21).1 (apk o21).2 (is_ap (hS.rd (i := 1) rfl) (hS.rd (i := 0) rfl)) (is_append _ _) rfl ?_
  intro A22 k23 w24 hS
  refine WL.assign rfl rfl ?_
  refine WL.done ?_
  refine W.seq ?_
  refine W.seq ?_
  have hS0 := hS
  refine W.drawX 4 (fun _ => false) (fun _ => none) [⟨[], [1], true⟩, ⟨[0], [], false⟩, ⟨[], [], true⟩, ⟨[1], [], true⟩] [[(1, .pointer (some ⟨g11, 0, none⟩))], [], [], []] (fun iQ => [fun v _ => v = .pointer (some ⟨g11, 0, none⟩), fun v _ => v = .int .i64 Pf, fun v _ => v = .int .i64 (1 : Int), fun v _ => v = .int .i64 Pf].getD iQ (fun _ _ => True)) Try.mixed (by kernel_rfl) ?_ (by kernel_rfl) ?_ ?_
  · refine Vs_monoT _ ?_
    intro VQ hVQ vQ wQ1 wQ2 hQ1 hQ2
    simp only [List.mem_cons, List.not_mem_nil, or_false] at hVQ
    rcases hVQ with rfl | rfl | rfl | rfl
    · exact hQ1
    · exact hQ1
    · exact hQ1
    · exact hQ1
  · refine ⟨⟨rfl, ⟨rfl, trivial⟩, ?_⟩, ⟨rfl, trivial, ?_⟩, ⟨rfl, trivial, ?_⟩, ⟨rfl, trivial, ?_⟩, trivial⟩
    · intro w25 hE
      intro RR
      refine WL.fieldA (off := 0) Try.fla24_0 rfl rfl ?_
      exact WL.done ⟨_, rfl, rfl, rfl, (fun h => absurd h (by decide)), (fun j h => by cases h)⟩
    · intro w26 hE
      have hE := hE rfl
      have hS := hS.grow hE
      rintro _ rfl
      intro RR
      refine WL.load Try.underlying3 rfl rfl (Own.vcells (hS.own (i := 2) rfl) 0 _ rfl) rfl ?_
      exact WL.done ⟨_, rfl, ext_refl _, rfl, (fun h => absurd h (by decide)), (fun j h => by cases h)⟩
    · intro w27 hE
      intro RR
      refine WL.assign rfl rfl ?_
      exact WL.done ⟨_, rfl, rfl, rfl, (fun h => absurd h (by decide)), (fun j h => by cases h)⟩
    · intro w28 hE
      rintro _ rfl
      intro RR
      refine WL.assign rfl rfl ?_
      exact WL.done ⟨_, rfl, rfl, rfl, (fun h => absurd h (by decide)), (fun j h => by cases h)⟩
  · intro vals w29 hT hVs hAp hCp
    have hS := hS.grow hT
    have hv0 : vals 0 = _ := hVs 0 (by decide)
    have hv1 : vals 1 = _ := hVs 1 (by decide)
    have hv2 : vals 2 = _ := hVs 2 (by decide)
    have hv3 : vals 3 = _ := hVs 3 (by decide)
    rw [show (List.filterMap (fun i => Option.map (fun t => (t, vals i)) (dstAt _ i)) (List.range _)) = [(12, .pointer (some ⟨g11, 0, none⟩)), (13, .int .i64 Pf), (4, .int .i64 (1 : Int)), (5, .int .i64 Pf)] from by
      show [(12, vals 0), (13, vals 1), (4, vals 2), (5, vals 3)] = _
      rw [hv0, hv1, hv2, hv3]]
    refine WA.done (by decide +kernel) ?_
    refine W.block ?_
    obtain ⟨I36, μ37, hv, hk83⟩ := hv
    change St _ _ _ _ [.row 3 1 A18 1 1 (is ([(1 : Int)] : List Int)), .row 3 1 A22 ((x14 ++ ([(1 : Int)] : List Int)).length) k23 (is (x14 ++ ([(1 : Int)] : List Int))), .row 24 3 (some ⟨g11, 0, none⟩) 1 1 [.int .i64 Pf, .int .i64 Mf, .slice Af mf.length kf]] at hS
    refine W.loop (σ := Int × Int) (fun q w1 => match q with | (z34, z35) => I36 z34 z35 ∧ St TT w none w1 [.row 3 1 A18 1 1 (is ([(1 : Int)] : List Int)), .row 3 1 A22 ((x14 ++ ([(1 : Int)] : List Int)).length) k23 (is (x14 ++ ([(1 : Int)] : List Int))), .row 24 3 (some ⟨g11, 0, none⟩) 1 1 [.int .i64 Pf, .int .i64 Mf, .slice Af mf.length kf]]) (fun q => match q with | (z34, z35) => [(1, .pointer (some ⟨g11, 0, none⟩)), (2, .bool false), (3, .slice A22 ((x14 ++ ([(1 : Int)] : List Int)).length) k23), (4, .int .i64 z34), (5, .int .i64 z35)]) (fun q => match q with | (z34, z35) => μ37 z34 z35) ((1 : Int), Pf) ⟨hv, hS⟩ ⟨rfl, rfl, rfl, rfl, rfl, trivial⟩ ?_
    rintro ⟨z34, z35⟩ w38 ⟨hv, hS⟩
    have hv := hk83 z34 z35 hv
    refine W.seq ?_
    refine W.seq ?_
    refine W.region ?_
    refine WL.move rfl rfl ?_
    obtain ⟨o39, hv⟩ := hv
    refine WL.mul (r := ((2 : Int) * z34)) rfl rfl (wr o39) rfl ?_
    refine WL.fieldA (off := 1) Try.fla24_1 rfl rfl ?_
    refine WL.load Try.underlying3 rfl rfl (Own.vcells (hS.own (i := 2) rfl) 1 _ rfl) rfl ?_
    refine WL.leqD rfl rfl rfl ?_
    refine WL.done ?_
    refine W.cond2 rfl (fun c40 => ?_) (fun c40 => ?_)
    · have hv := hv.1 (of_decide_eq_true c40)
      refine W.skip ?_
      refine W.seq ?_
      refine W.block ?_
      refine W.seq ?_
      refine W.region ?_
      refine WL.move rfl rfl ?_
      refine WL.move rfl rfl ?_
      refine WL.done ?_
      refine W.block ?_
      obtain ⟨I44, μ45, hv, hk82⟩ := hv
      change St _ _ _ _ [.row 3 1 A18 1 1 (is ([(1 : Int)] : List Int)), .row 3 1 A22 ((x14 ++ ([(1 : Int)] : List Int)).length) k23 (is (x14 ++ ([(1 : Int)] : List Int))), .row 24 3 (some ⟨g11, 0, none⟩) 1 1 [.int .i64 Pf, .int .i64 Mf, .slice Af mf.length kf]] at hS
      refine W.loop (σ := Int) (fun z43 w1 => I44 z43 ∧ St TT w none w1 [.row 3 1 A18 1 1 (is ([(1 : Int)] : List Int)), .row 3 1 A22 ((x14 ++ ([(1 : Int)] : List Int)).length) k23 (is (x14 ++ ([(1 : Int)] : List Int))), .row 24 3 (some ⟨g11, 0, none⟩) 1 1 [.int .i64 Pf, .int .i64 Mf, .slice Af mf.length kf]]) (fun z43 => [(1, .pointer (some ⟨g11, 0, none⟩)), (2, .bool false), (3, .slice A22 ((x14 ++ ([(1 : Int)] : List Int)).length) k23), (4, .int .i64 z34), (5, .int .i64 z35), (18, .bool (decide (((2 : Int) * z34) ≤ Mf))), (25, .int .i64 z35), (26, .int .i64 z43)]) (fun z43 => μ45 z43) (0 : Int) ⟨hv, hS⟩ ⟨rfl, rfl, rfl, rfl, rfl, rfl, rfl, rfl, trivial⟩ ?_
      rintro z43 w46 ⟨hv, hS⟩
      have hv := hk82 z43 hv
      refine W.seq ?_
      refine W.region ?_
      refine WL.lssD rfl rfl rfl ?_
      refine WL.done ?_
      refine W.seq ?_
      refine W.cond2 rfl (fun c47 => ?_) (fun c47 => ?_)
      · have hv := hv.1 (of_decide_eq_true c47)
        refine W.skip ?_
        refine W.seq ?_
        refine W.block ?_
        refine W.seq ?_
        refine W.region ?_
        refine WL.move rfl rfl ?_
        refine WL.assign rfl rfl ?_
        refine WL.done ?_
        refine W.seq ?_
        obtain ⟨x55, o62, hv⟩ := hv
        obtain ⟨r65, o67, hv⟩ := hv
        have hS0 := hS
        refine W.drawX 9 (fun iA => [false, false, false, false, false, false, true, false, false].getD iA false) (fun _ => none) [⟨[], [1], true⟩, ⟨[0], [], false⟩, ⟨[], [1], true⟩, ⟨[2], [], false⟩, ⟨[], [4], true⟩, ⟨[], [6], true⟩, ⟨[3, 4, 5], [], false⟩, ⟨[], [3], true⟩, ⟨[1, 6, 7], [], false⟩] [[(1, .pointer (some ⟨g11, 0, none⟩))], [], [(1, .pointer (some ⟨g11, 0, none⟩))], [], [(4, .int .i64 z34)], [(6, .int .i64 z43)], [], [(3, .slice A22 ((x14 ++ ([(1 : Int)] : List Int)).length) k23)], []] (fun iQ => [fun v _ => v = .pointer (some ⟨g11, 0, none⟩), fun v _ => v = .int .i64 Pf, fun v _ => v = .pointer (some ⟨g11, 0, none⟩), fun v _ => v = .int .i64 Pf, fun v _ => v = .int .i64 z34, fun v _ => v = .int .i64 z43, fun v wQ => ∃ A56_6 k57_6, v = .slice A56_6 x55.length k57_6 ∧ Own 0 wQ 3 1 A56_6 x55.length k57_6 (is x55) ∧ (∀ g, bl A56_6 = some g → w46.heap.size ≤ g), fun v _ => v = .slice A22 ((x14 ++ ([(1 : Int)] : List Int)).length) k23, fun v _ => v = .bool r65].getD iQ (fun _ _ => True)) Try.mixed (by kernel_rfl) ?_ (by kernel_rfl) ?_ ?_
        · refine Vs_monoT _ ?_
          intro VQ hVQ vQ wQ1 wQ2 hQ1 hQ2
          simp only [List.mem_cons, List.not_mem_nil, or_false] at hVQ
          rcases hVQ with rfl | rfl | rfl | rfl | rfl | rfl | rfl | rfl | rfl
          · exact hQ1
          · exact hQ1
          · exact hQ1
          · exact hQ1
          · exact hQ1
          · exact hQ1
          · obtain ⟨A56_6, k57_6, hQe, hO60_6, hN61_6⟩ := hQ1
            exact ⟨A56_6, k57_6, hQe, hO60_6.ext hQ2, hN61_6⟩
          · exact hQ1
          · exact hQ1
        · refine ⟨⟨rfl, ⟨rfl, trivial⟩, ?_⟩, ⟨rfl, trivial, ?_⟩, ⟨rfl, ⟨rfl, trivial⟩, ?_⟩, ⟨rfl, trivial, ?_⟩, ⟨rfl, ⟨rfl, trivial⟩, ?_⟩, ⟨rfl, ⟨rfl, trivial⟩, ?_⟩, ⟨rfl, trivial, ?_⟩, ⟨rfl, ⟨rfl, trivial⟩, ?_⟩, ⟨rfl, trivial, ?_⟩, trivial⟩
          · intro w48 hE
            intro RR
            refine WL.fieldA (off := 0) Try.fla24_0 rfl rfl ?_
            exact WL.done ⟨_, rfl, rfl, rfl, (fun h => absurd h (by decide)), (fun j h => by cases h)⟩
          · intro w49 hE
            have hE := hE rfl
            have hS := hS.grow hE
            rintro _ rfl
            intro RR
            refine WL.load Try.underlying3 rfl rfl (Own.vcells (hS.own (i := 2) rfl) 0 _ rfl) rfl ?_
            exact WL.done ⟨_, rfl, ext_refl _, rfl, (fun h => absurd h (by decide)), (fun j h => by cases h)⟩
          · intro w50 hE
            intro RR
            refine WL.fieldA (off := 0) Try.fla24_0 rfl rfl ?_
            exact WL.done ⟨_, rfl, rfl, rfl, (fun h => absurd h (by decide)), (fun j h => by cases h)⟩
          · intro w51 hE
            have hE := hE rfl
            have hS := hS.grow hE
            rintro _ rfl
            intro RR
            refine WL.load Try.underlying3 rfl rfl (Own.vcells (hS.own (i := 2) rfl) 0 _ rfl) rfl ?_
            exact WL.done ⟨_, rfl, ext_refl _, rfl, (fun h => absurd h (by decide)), (fun j h => by cases h)⟩
          · intro w52 hE
            intro RR
            refine WL.move rfl rfl ?_
            exact WL.done ⟨_, rfl, rfl, rfl, (fun h => absurd h (by decide)), (fun j h => by cases h)⟩
          · intro w53 hE
            intro RR
            refine WL.move rfl rfl ?_
            exact WL.done ⟨_, rfl, rfl, rfl, (fun h => absurd h (by decide)), (fun j h => by cases h)⟩
          · intro w54 hE
            have hE := hE rfl
            have hS := hS.grow hE
            rintro _ rfl
            rintro _ rfl
            rintro _ rfl
            intro RR
            refine WL.call Try.func85 rfl Try.nm85 rfl rfl (calls_un (ok_digits  o62)) ?_
            rintro _ w59 ⟨_, hGw59, hRww59, hNww59, x55q, A56, k57, rfl, rfl, he⟩
            subst he
            have hO60 := (hRww59.get (i := 0) rfl).1
            have hN61 : ∀ g, bl A56 = some g → _ ≤ g := fun g hg => Nat.le_trans hE.size (hNww59.1 g hg)
            exact WL.done ⟨_, rfl, hGw59, ⟨A56, k57, rfl, hO60, hN61⟩, (fun _ => fun g hg => ⟨hNww59.1 g hg, (hO60.bl_ge g hg).2⟩), (fun j h => by cases h)⟩
          · intro w63 hE
            intro RR
            refine WL.move rfl rfl ?_
            exact WL.done ⟨_, rfl, rfl, rfl, (fun h => absurd h (by decide)), (fun j h => by cases h)⟩
          · intro w64 hE
            have hE := hE rfl
            have hS := hS.grow hE
            rintro _ rfl
            rintro _ ⟨A56_6, k57_6, rfl, hO60_6, hN61_6⟩
            rintro _ rfl
            intro RR
            refine WL.call Try.func84 rfl Try.nm84 rfl rfl (calls_un (ok_divides hO60_6.rd (hS.rd (i := 1) rfl) o67)) ?_
            rintro _ w66 ⟨_, hGw66, hRww66, hNww66, r65q, rfl, rfl, he⟩
            subst he
            exact WL.done ⟨_, rfl, hGw66, rfl, (fun h => absurd h (by decide)), (fun j h => by cases h)⟩
        · intro vals w68 hT hVs hAp hCp
          have hS := hS.grow hT
          have hv0 : vals 0 = _ := hVs 0 (by decide)
          have hv1 : vals 1 = _ := hVs 1 (by decide)
          have hv2 : vals 2 = _ := hVs 2 (by decide)
          have hv3 : vals 3 = _ := hVs 3 (by decide)
          have hv4 : vals 4 = _ := hVs 4 (by decide)
          have hv5 : vals 5 = _ := hVs 5 (by decide)
          obtain ⟨A56_6, k57_6, hv6, hO60_6, hN61_6⟩ := hVs 6 (by decide)
          have hv7 : vals 7 = _ := hVs 7 (by decide)
          have hv8 : vals 8 = _ := hVs 8 (by decide)
          rw [show (List.filterMap (fun i => Option.map (fun t => (t, vals i)) (dstAt _ i)) (List.range _)) = [(29, .pointer (some ⟨g11, 0, none⟩)), (30, .int .i64 Pf), (31, .pointer (some ⟨g11, 0, none⟩)), (32, .int .i64 Pf), (33, .int .i64 z34), (34, .int .i64 z43), (35, .slice A56_6 x55.length k57_6), (36, .slice A22 ((x14 ++ ([(1 : Int)] : List Int)).length) k23), (37, .bool r65)] from by
            show [(29, vals 0), (30, vals 1), (31, vals 2), (32, vals 3), (33, vals 4), (34, vals 5), (35, vals 6), (36, vals 7), (37, vals 8)] = _
            rw [hv0, hv1, hv2, hv3, hv4, hv5, hv6, hv7, hv8]]
          refine WA.done (by decide +kernel) ?_
          refine W.cond2 rfl (fun c69 => ?_) (fun c69 => ?_)
          · have hv := hv.1 (c69)
            refine W.seq ?_
            refine W.region ?_
            refine WL.assign rfl rfl ?_
            refine WL.done ?_
            refine W.ret ?_
            refine ⟨_, rfl, Fin.nil ?_⟩
            exact ⟨_, hS.ext, (hS.pick [] rfl).rows, News.of (hS.pick [] rfl).rows rfl, ⟨false, rfl, rfl, hv⟩⟩
          · have hv := hv.2 (c69)
            refine W.skip ?_
            refine W.region ?_
            obtain ⟨o70, hv⟩ := hv
            refine WL.add (r := (z43 + (1 : Int))) rfl rfl (wr o70) rfl ?_
            refine WL.move rfl rfl ?_
            refine WL.done ?_
            change St _ _ _ _ [.row 3 1 A18 1 1 (is ([(1 : Int)] : List Int)), .row 3 1 A22 ((x14 ++ ([(1 : Int)] : List Int)).length) k23 (is (x14 ++ ([(1 : Int)] : List Int))), .row 24 3 (some ⟨g11, 0, none⟩) 1 1 [.int .i64 Pf, .int .i64 Mf, .slice Af mf.length kf]] at hS
            exact ⟨(z43 + (1 : Int)), ⟨rfl, rfl, rfl, rfl, rfl, rfl, rfl, rfl, trivial⟩, hv.2, rfl, hv.1, hS⟩
      · have hv := hv.2 (of_decide_eq_false c47)
        refine W.exit ?_
        obtain ⟨o73, hv⟩ := hv
        obtain ⟨o78, hv⟩ := hv
        have hS0 := hS
        refine W.drawX 8 (fun _ => false) (fun _ => none) [⟨[], [4], true⟩, ⟨[0], [], true⟩, ⟨[], [5], true⟩, ⟨[], [1], true⟩, ⟨[3], [], false⟩, ⟨[2, 4], [], true⟩, ⟨[1], [], true⟩, ⟨[5], [], true⟩] [[(4, .int .i64 z34)], [], [(5, .int .i64 z35)], [(1, .pointer (some ⟨g11, 0, none⟩))], [], [], [], []] (fun iQ => [fun v _ => v = .int .i64 z34, fun v _ => v = .int .i64 (z34 + (1 : Int)), fun v _ => v = .int .i64 z35, fun v _ => v = .pointer (some ⟨g11, 0, none⟩), fun v _ => v = .int .i64 Pf, fun v _ => v = .int .i64 (z35 * Pf), fun v _ => v = .int .i64 (z34 + (1 : Int)), fun v _ => v = .int .i64 (z35 * Pf)].getD iQ (fun _ _ => True)) Try.mixed (by kernel_rfl) ?_ (by kernel_rfl) ?_ ?_
        · refine Vs_monoT _ ?_
          intro VQ hVQ vQ wQ1 wQ2 hQ1 hQ2
          simp only [List.mem_cons, List.not_mem_nil, or_false] at hVQ
          rcases hVQ with rfl | rfl | rfl | rfl | rfl | rfl | rfl | rfl
          · exact hQ1
          · exact hQ1
          · exact hQ1
          · exact hQ1
          · exact hQ1
          · exact hQ1
          · exact hQ1
          · exact hQ1
        · refine ⟨⟨rfl, ⟨rfl, trivial⟩, ?_⟩, ⟨rfl, trivial, ?_⟩, ⟨rfl, ⟨rfl, trivial⟩, ?_⟩, ⟨rfl, ⟨rfl, trivial⟩, ?_⟩, ⟨rfl, trivial, ?_⟩, ⟨rfl, trivial, ?_⟩, ⟨rfl, trivial, ?_⟩, ⟨rfl, trivial, ?_⟩, trivial⟩
          · intro w71 hE
            intro RR
            refine WL.move rfl rfl ?_
            exact WL.done ⟨_, rfl, rfl, rfl, (fun h => absurd h (by decide)), (fun j h => by cases h)⟩
          · intro w72 hE
            rintro _ rfl
            intro RR
            refine WL.add (r := (z34 + (1 : Int))) rfl rfl (wr o73) rfl ?_
            exact WL.done ⟨_, rfl, rfl, rfl, (fun h => absurd h (by decide)), (fun j h => by cases h)⟩
          · intro w74 hE
            intro RR
            refine WL.move rfl rfl ?_
            exact WL.done ⟨_, rfl, rfl, rfl, (fun h => absurd h (by decide)), (fun j h => by cases h)⟩
          · intro w75 hE
            intro RR
            refine WL.fieldA (off := 0) Try.fla24_0 rfl rfl ?_
            exact WL.done ⟨_, rfl, rfl, rfl, (fun h => absurd h (by decide)), (fun j h => by cases h)⟩
          · intro w76 hE
            have hE := hE rfl
            have hS := hS.grow hE
            rintro _ rfl
            intro RR
            refine WL.load Try.underlying3 rfl rfl (Own.vcells (hS.own (i := 2) rfl) 0 _ rfl) rfl ?_
            exact WL.done ⟨_, rfl, ext_refl _, rfl, (fun h => absurd h (by decide)), (fun j h => by cases h)⟩
          · intro w77 hE
            rintro _ rfl
            rintro _ rfl
            intro RR
            refine WL.mul (r := (z35 * Pf)) rfl rfl (wr o78) rfl ?_
            exact WL.done ⟨_, rfl, rfl, rfl, (fun h => absurd h (by decide)), (fun j h => by cases h)⟩
          · intro w79 hE
            rintro _ rfl
            intro RR
            refine WL.assign rfl rfl ?_
            exact WL.done ⟨_, rfl, rfl, rfl, (fun h => absurd h (by decide)), (fun j h => by cases h)⟩
          · intro w80 hE
            rintro _ rfl
            intro RR
            refine WL.assign rfl rfl ?_
            exact WL.done ⟨_, rfl, rfl, rfl, (fun h => absurd h (by decide)), (fun j h => by cases h)⟩
        · intro vals w81 hT hVs hAp hCp
          have hS := hS.grow hT
          have hv0 : vals 0 = _ := hVs 0 (by decide)
          have hv1 : vals 1 = _ := hVs 1 (by decide)
          have hv2 : vals 2 = _ := hVs 2 (by decide)
          have hv3 : vals 3 = _ := hVs 3 (by decide)
          have hv4 : vals 4 = _ := hVs 4 (by decide)
          have hv5 : vals 5 = _ := hVs 5 (by decide)
          have hv6 : vals 6 = _ := hVs 6 (by decide)
          have hv7 : vals 7 = _ := hVs 7 (by decide)
          rw [show (List.filterMap (fun i => Option.map (fun t => (t, vals i)) (dstAt _ i)) (List.range _)) = [(19, .int .i64 z34), (20, .int .i64 (z34 + (1 : Int))), (21, .int .i64 z35), (22, .pointer (some ⟨g11, 0, none⟩)), (23, .int .i64 Pf), (24, .int .i64 (z35 * Pf)), (4, .int .i64 (z34 + (1 : Int))), (5, .int .i64 (z35 * Pf))] from by
            show [(19, vals 0), (20, vals 1), (21, vals 2), (22, vals 3), (23, vals 4), (24, vals 5), (4, vals 6), (5, vals 7)] = _
            rw [hv0, hv1, hv2, hv3, hv4, hv5, hv6, hv7]]
          refine WA.done (by decide +kernel) ?_
          change St _ _ _ _ [.row 3 1 A18 1 1 (is ([(1 : Int)] : List Int)), .row 3 1 A22 ((x14 ++ ([(1 : Int)] : List Int)).length) k23 (is (x14 ++ ([(1 : Int)] : List Int))), .row 24 3 (some ⟨g11, 0, none⟩) 1 1 [.int .i64 Pf, .int .i64 Mf, .slice Af mf.length kf]] at hS
          exact ⟨((z34 + (1 : Int)), (z35 * Pf)), ⟨rfl, rfl, rfl, rfl, rfl, trivial⟩, hv.2, rfl, hv.1, hS⟩
    · have hv := hv.2 (of_decide_eq_false c40)
      refine W.exit ?_
      refine W.seq ?_
      refine W.region ?_
      refine WL.assign rfl rfl ?_
      refine WL.done ?_
      refine W.ret ?_
      refine ⟨_, rfl, Fin.nil ?_⟩
      exact ⟨_, hS.ext, (hS.pick [] rfl).rows, News.of (hS.pick [] rfl).rows rfl, ⟨true, rfl, rfl, hv⟩⟩

def V_check (Pf : Int) (Mf : Int) (mf : List Int) (Q : Int → Prop) : Prop :=
  (((256 : Int) < Pf) → (Q (1 : Int))) ∧ (¬ ((256 : Int) < Pf) → (V_isPrime Pf (fun r15 => (((!r15) = true) → (Q (1 : Int))) ∧ ((!r15) = false → (((Mf < (1 : Int)) → (Q (1 : Int))) ∧ (¬ (Mf < (1 : Int)) → (V_order Pf Mf mf (fun r19 => (((256 : Int) < r19) → (Q (1 : Int))) ∧ (¬ ((256 : Int) < r19) → (((Mf = (1 : Int)) → (V_okIf (decide (((mf.length : Nat) : Int) = (0 : Int))) (fun r23 => Q r23))) ∧ (¬ (Mf = (1 : Int)) → (((((mf.length : Nat) : Int) ≠ Mf) → (Q (1 : Int))) ∧ (¬ (((mf.length : Nat) : Int) ≠ Mf) → (V_contains mf (fun xc Qc => V_checkB xc Pf Mf mf Qc) (fun r26 => ((r26 = true) → (Q (1 : Int))) ∧ (r26 = false → (V_isIrreducible Pf Mf mf (fun r29 => V_okIf r29 (fun r31 => Q r31)))))))))))))))))))
theorem ok_check {w : World} {Q : Int → Prop} {Pf : Int} {Mf : Int} {mf : List Int} {Bf : Nat} {Af : Option Addr} {nf kf : Nat} (hf : Rd Bf w 1 Af nf kf (is mf)) (hv : V_check Pf Mf mf Q) :
    Calls Try.prog 59 #[.agg #[.int .i64 Pf, .int .i64 Mf, .slice Af nf kf]] w fun e w' => ∃ v Qr, e = .returned v ∧ w.grownBy w' none ∧ Rows w.heap.size none w' Qr ∧ News w.heap.size Qr ∧ ∃ (r0 : Int), v = .int .i64 r0 ∧ Qr = [] ∧ Q r0 := by
  have hnf := hf.ilen
  subst hnf
  refine calls_swap ?_
  refine calls_of_W (vs := [.agg #[.int .i64 Pf, .int .i64 Mf, .slice Af mf.length kf]]) [2] Try.func59 rfl rfl rfl rfl ?_
  have hS := St.start w
  unfold V_check at hv
  refine W.seq ?_
  refine W.region ?_
  refine SL.box (z := 3) (cs := [.int .i64 Pf, .int .i64 Mf, .slice Af mf.length kf]) hS rfl rfl rfl rfl ?_
  intro g11 w12 hS
  refine WL.assign rfl rfl ?_
  refine WL.done ?_
  refine W.seq ?_
  refine W.seq ?_
  refine W.region ?_
  refine WL.fieldA (off := 0) Try.fla24_0 rfl rfl ?_
  refine WL.load Try.underlying3 rfl rfl (Own.vcells (hS.own (i := 0) rfl) 0 _ rfl) rfl ?_
  refine WL.gtrD rfl rfl rfl ?_
  refine WL.move rfl rfl ?_
  by_cases g13 : (256 : Int) < Pf
  · have hv := hv.1 g13
    rw [decide_eq_true g13]
    refine WL.pass rfl rfl rfl ?_
    refine WL.pass rfl rfl rfl ?_
    refine WL.pass rfl rfl rfl ?_
    refine WL.pass rfl rfl rfl ?_
    refine WL.pick rfl rfl rfl ?_
    refine WL.move rfl rfl ?_
    refine WL.pass rfl rfl rfl ?_
    refine WL.pass rfl rfl rfl ?_
    refine WL.pass rfl rfl rfl ?_
    refine WL.pick rfl rfl rfl ?_
    refine WL.move rfl rfl ?_
    refine WL.pass rfl rfl rfl ?_
    refine WL.pass rfl rfl rfl ?_
    refine WL.pass rfl rfl rfl ?_
    refine WL.pick rfl rfl rfl ?_
    refine WL.done ?_
    refine W.condT rfl ?_
    refine W.seq ?_
    refine W.region ?_
    refine WL.assign rfl rfl ?_
    refine WL.done ?_
    refine W.ret ?_
    refine ⟨_, rfl, Fin.nil ?_⟩
    exact ⟨_, hS.ext, (hS.pick [] rfl).rows, News.of (hS.pick [] rfl).rows rfl, ⟨(1 : Int), rfl, rfl, hv⟩⟩
  · have hv := hv.2 g13
    rw [decide_eq_false g13]
    refine WL.take rfl ?_
    refine WL.fieldA (off := 0) Try.fla24_0 rfl rfl ?_
    refine WL.take rfl ?_
    refine WL.load Try.underlying3 rfl rfl (Own.vcells (hS.own (i := 0) rfl) 0 _ rfl) rfl ?_
    refine WL.take rfl ?_
    refine SL.call hS (ok_isPrime  hv) Try.func70 rfl Try.nm70 rfl rfl ?_
    rintro _ _ w14 ⟨r15, rfl, rfl, hv⟩ hGw14 hS
    change St _ _ _ _ [.row 24 3 (some ⟨g11, 0, none⟩) 1 1 [.int .i64 Pf, .int .i64 Mf, .slice Af mf.length kf]] at hS
    refine WL.take rfl ?_
    refine WL.not rfl rfl ?_
    refine WL.pick rfl rfl rfl ?_
    refine WL.move rfl rfl ?_
    rcases g16 : (!r15) with _ | _
    · have hv := hv.2 g16
      refine WL.take rfl ?_
      refine WL.fieldA (off := 1) Try.fla24_1 rfl rfl ?_
      refine WL.take rfl ?_
      refine WL.load Try.underlying3 rfl rfl (Own.vcells (hS.own (i := 0) rfl) 1 _ rfl) rfl ?_
      refine WL.take rfl ?_
      refine WL.lssD rfl rfl rfl ?_
      refine WL.pick rfl rfl rfl ?_
      refine WL.move rfl rfl ?_
      by_cases g17 : Mf < (1 : Int)
      · have hv := hv.1 g17
        rw [decide_eq_true g17]
        refine WL.pass rfl rfl rfl ?_
        refine WL.pass rfl rfl rfl ?_
        refine WL.pass rfl rfl rfl ?_
        refine WL.pick rfl rfl rfl ?_
        refine WL.done ?_
        refine W.condT rfl ?_
        refine W.seq ?_
        refine W.region ?_
        refine WL.assign rfl rfl ?_
        refine WL.done ?_
        refine W.ret ?_
        refine ⟨_, rfl, Fin.nil ?_⟩
        exact ⟨_, hS.ext, (hS.pick [] rfl).rows, News.of (hS.pick [] rfl).rows rfl, ⟨(1 : Int), rfl, rfl, hv⟩⟩
      · have hv := hv.2 g17
        rw [decide_eq_false g17]
        refine WL.take rfl ?_
        refine WL.loadV (cs := [.int .i64 Pf, .int .i64 Mf, .slice Af mf.length kf]) Try.el24 Try.agg24 rfl rfl (Own.vcells (hS.own (i := 0) rfl)) rfl ?_
        refine WL.take rfl ?_
        refine SL.call hS (ok_order (hS.ro hf) hv) Try.func61 rfl Try.nm61 rfl rfl ?_
        rintro _ _ w18 ⟨r19, rfl, rfl, hv⟩ hGw18 hS
        change St _ _ _ _ [.row 24 3 (some ⟨g11, 0, none⟩) 1 1 [.int .i64 Pf, .int .i64 Mf, .slice Af mf.length kf]] at hS
        refine WL.take rfl ?_
        refine WL.gtrD rfl rfl rfl ?_
        refine WL.pick rfl rfl rfl ?_
        refine WL.done ?_
        refine W.cond2 rfl (fun c20 => ?_) (fun c20 => ?_)
        · have hv := hv.1 (of_decide_eq_true c20)
          refine W.seq ?_
          refine W.region ?_
          refine WL.assign rfl rfl ?_
          refine WL.done ?_
          refine W.ret ?_
          refine ⟨_, rfl, Fin.nil ?_⟩
          exact ⟨_, hS.ext, (hS.pick [] rfl).rows, News.of (hS.pick [] rfl).rows rfl, ⟨(1 : Int), rfl, rfl, hv⟩⟩
        · have hv := hv.2 (of_decide_eq_false c20)
          refine W.skip ?_
          refine W.seq ?_
          refine W.seq ?_
          refine W.region ?_
          refine WL.fieldA (off := 1) Try.fla24_1 rfl rfl ?_
          refine WL.load Try.underlying3 rfl rfl (Own.vcells (hS.own (i := 0) rfl) 1 _ rfl) rfl ?_
          refine WL.eqlD rfl rfl rfl ?_
          refine WL.done ?_
          refine W.cond2 rfl (fun c21 => ?_) (fun c21 => ?_)
          · have hv := hv.1 (of_decide_eq_true c21)
            refine W.seq ?_
            refine W.region ?_
            refine WL.fieldA (off := 2) Try.fla24_2 rfl rfl ?_
            refine WL.load Try.underlying22 rfl rfl (Own.vcells (hS.own (i := 0) rfl) 2 _ rfl) rfl ?_
            refine WL.len Try.underlying22 rfl rfl ?_
            refine WL.eqlD rfl rfl rfl ?_
            refine SL.call hS (ok_okIf  hv) Try.func71 rfl Try.nm71 rfl rfl ?_
            rintro _ _ w22 ⟨r23, rfl, rfl, hv⟩ hGw22 hS
            change St _ _ _ _ [.row 24 3 (some ⟨g11, 0, none⟩) 1 1 [.int .i64 Pf, .int .i64 Mf, .slice Af mf.length kf]] at hS
            refine WL.assign rfl rfl ?_
            refine WL.done ?_
            refine W.ret ?_
            refine ⟨_, rfl, Fin.nil ?_⟩
            exact ⟨_, hS.ext, (hS.pick [] rfl).rows, News.of (hS.pick [] rfl).rows rfl, ⟨r23, rfl, rfl, hv⟩⟩
          · have hv := hv.2 (of_decide_eq_false c21)
            refine W.skip ?_
            refine W.seq ?_
            refine W.seq ?_
            refine W.region ?_
            refine WL.fieldA (off := 2) Try.fla24_2 rfl rfl ?_
            refine WL.load Try.underlying22 rfl rfl (Own.vcells (hS.own (i := 0) rfl) 2 _ rfl) rfl ?_
            refine WL.len Try.underlying22 rfl rfl ?_
            refine WL.fieldA (off := 1) Try.fla24_1 rfl rfl ?_
            refine WL.load Try.underlying3 rfl rfl (Own.vcells (hS.own (i := 0) rfl) 1 _ rfl) rfl ?_
            refine WL.neqD rfl rfl rfl ?_
            refine WL.move rfl rfl ?_
            by_cases g24 : ((mf.length : Nat) : Int) ≠ Mf
            · have hv := hv.1 g24
              rw [decide_eq_true g24]
              refine WL.pass rfl rfl rfl ?_
              refine WL.pass rfl rfl rfl ?_
              refine WL.pass rfl rfl rfl ?_
              refine WL.pass rfl rfl rfl ?_
              refine WL.pick rfl rfl rfl ?_
              refine WL.done ?_
              refine W.condT rfl ?_
              refine W.seq ?_
              refine W.region ?_
              refine WL.assign rfl rfl ?_
              refine WL.done ?_
              refine W.ret ?_
              refine ⟨_, rfl, Fin.nil ?_⟩
              exact ⟨_, hS.ext, (hS.pick [] rfl).rows, News.of (hS.pick [] rfl).rows rfl, ⟨(1 : Int), rfl, rfl, hv⟩⟩
            · have hv := hv.2 g24
              rw [decide_eq_false g24]
              refine WL.take rfl ?_
              refine WL.fieldA (off := 2) Try.fla24_2 rfl rfl ?_
              refine WL.take rfl ?_
              refine WL.load Try.underlying22 rfl rfl (Own.vcells (hS.own (i := 0) rfl) 2 _ rfl) rfl ?_
              refine WL.take rfl ?_
              refine WL.makeFunc (vs := [.pointer (some ⟨g11, 0, none⟩)]) rfl rfl ?_
              refine WL.take rfl ?_
              refine SL.call hS (ok_contains (hS.ro hf) Try.func73 rfl Try.nm73 (fun wc xc Qc hg hv => ok_checkB (Rd.ext (hS.rd (i := 0) rfl) hg) (Rd.ext (hS.ro hf) hg) hv) hv) Try.func72 rfl Try.nm72 rfl rfl ?_
              rintro _ _ w25 ⟨r26, rfl, rfl, hv⟩ hGw25 hS
              change St _ _ _ _ [.row 24 3 (some ⟨g11, 0, none⟩) 1 1 [.int .i64 Pf, .int .i64 Mf, .slice Af mf.length kf]] at hS
              refine WL.pick rfl rfl rfl ?_
              refine WL.done ?_
              refine W.cond2 rfl (fun c27 => ?_) (fun c27 => ?_)
              · have hv := hv.1 (c27)
                refine W.seq ?_
                refine W.region ?_
                refine WL.assign rfl rfl ?_
                refine WL.done ?_
                refine W.ret ?_
                refine ⟨_, rfl, Fin.nil ?_⟩
                exact ⟨_, hS.ext, (hS.pick [] rfl).rows, News.of (hS.pick [] rfl).rows rfl, ⟨(1 : Int), rfl, rfl, hv⟩⟩
              · have hv := hv.2 (c27)
                refine W.skip ?_
                refine W.seq ?_
                refine W.region ?_
                refine WL.loadV (cs := [.int .i64 Pf, .int .i64 Mf, .slice Af mf.length kf]) Try.el24 Try.agg24 rfl rfl (Own.vcells (hS.own (i := 0) rfl)) rfl ?_
                refine SL.call hS (ok_isIrreducible (hS.ro hf) hv) Try.func74 rfl Try.nm74 rfl rfl ?_
                rintro _ _ w28 ⟨r29, rfl, rfl, hv⟩ hGw28 hS
                change St _ _ _ _ [.row 24 3 (some ⟨g11, 0, none⟩) 1 1 [.int .i64 Pf, .int .i64 Mf, .slice Af mf.length kf]] at hS
                refine SL.call hS (ok_okIf  hv) Try.func71 rfl Try.nm71 rfl rfl ?_
                rintro _ _ w30 ⟨r31, rfl, rfl, hv⟩ hGw30 hS
                change St _ _ _ _ [.row 24 3 (some ⟨g11, 0, none⟩) 1 1 [.int .i64 Pf, .int .i64 Mf, .slice Af mf.length kf]] at hS
                refine WL.assign rfl rfl ?_
                refine WL.done ?_
                refine W.ret ?_
                refine ⟨_, rfl, Fin.nil ?_⟩
                exact ⟨_, hS.ext, (hS.pick [] rfl).rows, News.of (hS.pick [] rfl).rows rfl, ⟨r31, rfl, rfl, hv⟩⟩
    · have hv := hv.1 g16
      refine WL.pass rfl rfl rfl ?_
      refine WL.pass rfl rfl rfl ?_
      refine WL.pass rfl rfl rfl ?_
      refine WL.pick rfl rfl rfl ?_
      refine WL.move rfl rfl ?_
      refine WL.pass rfl rfl rfl ?_
      refine WL.pass rfl rfl rfl ?_
      refine WL.pass rfl rfl rfl ?_
      refine WL.pick rfl rfl rfl ?_
      refine WL.done ?_
      refine W.condT rfl ?_
      refine W.seq ?_
      refine W.region ?_
      refine WL.assign rfl rfl ?_
      refine WL.done ?_
      refine W.ret ?_
      refine ⟨_, rfl, Fin.nil ?_⟩
      exact ⟨_, hS.ext, (hS.pick [] rfl).rows, News.of (hS.pick [] rfl).rows rfl, ⟨(1 : Int), rfl, rfl, hv⟩⟩

def V_elements (Fg : GFv) (Q : Unit → Prop) : Prop :=
  Q ()
theorem ok_elements {w : World} {Q : Unit → Prop} {Fg : GFv} {ag : Addr} {Bg : Nat} (hgg : GFR Bg w ag Fg) (hv : V_elements Fg Q) :
    Calls Try.prog 76 #[.pointer (some ag)] w fun e w' => ∃ v Qr, e = .returned v ∧ w.grownBy w' none ∧ Rows w.heap.size none w' Qr ∧ News w.heap.size Qr ∧ ∃ g : Nat, v = .func (.func 86) #[] #[.pointer (some ⟨g, 0, none⟩)] ∧ Qr = [.row 25 1 (some ⟨g, 0, none⟩) 1 1 [.pointer (some ag)]] ∧ Q () := by
  have hgg_ := hgg
  obtain ⟨Ag_mod, kg_mod, Ag_exp, kg_exp, Ag_log, kg_log, Ag_above, kg_above, hg_c, hg_mod, hg_exp, hg_log, hg_above⟩ := hgg_
  refine calls_swap ?_
  refine calls_of_W (vs := [.pointer (some ag)]) [2] Try.func76 rfl rfl rfl rfl ?_
  have hS := St.start w
  unfold V_elements at hv
  refine W.seq ?_
  refine W.region ?_
  refine SL.box (z := 1) (cs := [.pointer (some ag)]) hS rfl rfl rfl rfl ?_
  intro g11 w12 hS
  refine WL.assign rfl rfl ?_
  refine WL.done ?_
  refine W.seq ?_
  refine W.region ?_
  refine WL.makeFunc (vs := [.pointer (some ⟨g11, 0, none⟩)]) rfl rfl ?_
  refine WL.assign rfl rfl ?_
  refine WL.done ?_
  refine W.ret ?_
  refine ⟨_, rfl, Fin.nil ?_⟩
  exact ⟨_, hS.ext, (hS.pick [0] rfl).rows, News.of (hS.pick [0] rfl).rows rfl, ⟨g11, rfl, rfl, hv⟩⟩

def V_backward (l : List Int) (Q : Unit → Prop) : Prop :=
  Q ()
theorem ok_backward {w : World} {Q : Unit → Prop} {l : List Int} {Bl : Nat} {Al : Option Addr} {nl kl : Nat} (hl : Rd Bl w 1 Al nl kl (is l)) (hv : V_backward l Q) :
    Calls Try.prog 91 #[.slice Al nl kl] w fun e w' => ∃ v Qr, e = .returned v ∧ w.grownBy w' none ∧ Rows w.heap.size none w' Qr ∧ News w.heap.size Qr ∧ ∃ g : Nat, v = .func (.func 92) #[] #[.pointer (some ⟨g, 0, none⟩)] ∧ Qr = [.row 22 1 (some ⟨g, 0, none⟩) 1 1 [.slice Al nl kl]] ∧ Q () := by
  have hnl := hl.ilen
  subst hnl
  refine calls_swap ?_
  refine calls_of_W (vs := [.slice Al l.length kl]) [2] Try.func91 rfl rfl rfl rfl ?_
  have hS := St.start w
  unfold V_backward at hv
  refine W.seq ?_
  refine W.region ?_
  refine SL.box (z := 1) (cs := [.slice Al l.length kl]) hS rfl rfl rfl rfl ?_
  intro g11 w12 hS
  refine WL.assign rfl rfl ?_
  refine WL.done ?_
  refine W.seq ?_
  refine W.region ?_
  refine WL.makeFunc (vs := [.pointer (some ⟨g11, 0, none⟩)]) rfl rfl ?_
  refine WL.assign rfl rfl ?_
  refine WL.done ?_
  refine W.ret ?_
  refine ⟨_, rfl, Fin.nil ?_⟩
  exact ⟨_, hS.ext, (hS.pick [0] rfl).rows, News.of (hS.pick [0] rfl).rows rfl, ⟨g11, rfl, rfl, hv⟩⟩

def V_fromDigits (p : Int) (l : List Int) (Q : Int → Prop) : Prop :=
  V_backward l (fun _ => ∃ (I22 : Nat → Int → Prop), I22 0 (0 : Int) ∧ (∀ i18 : Nat, i18 < l.length → ∀ (z21 : Int), I22 i18 z21 → ((I64 (z21 * p)) ∧ ((I64 ((z21 * p) + (gi l ((l.length - 1 - i18 : Nat) : Int)))) ∧ (I22 (i18 + 1) ((z21 * p) + (gi l ((l.length - 1 - i18 : Nat) : Int))))))) ∧ (∀ (z21 : Int), I22 l.length z21 → Q z21))
theorem ok_fromDigits {w : World} {Q : Int → Prop} {p : Int} {l : List Int} {Bl : Nat} {Al : Option Addr} {nl kl : Nat} (hl : Rd Bl w 1 Al nl kl (is l)) (hv : V_fromDigits p l Q) :
    Calls Try.prog 88 #[.int .i64 p, .slice Al nl kl] w fun e w' => ∃ v Qr, e = .returned v ∧ w.grownBy w' none ∧ Rows w.heap.size none w' Qr ∧ News w.heap.size Qr ∧ ∃ (r0 : Int), v = .int .i64 r0 ∧ Qr = [] ∧ Q r0 := by
  have hnl := hl.ilen
  subst hnl
  refine calls_swap ?_
  refine calls_of_W (vs := [.int .i64 p, .slice Al l.length kl]) [4] Try.func88 rfl rfl rfl rfl ?_
  have hS := St.start w
  unfold V_fromDigits at hv
  refine W.seq ?_
  refine W.region ?_
  refine SL.box (z := 1) (cs := [.int .i64 p]) hS rfl rfl rfl rfl ?_
  intro g11 w12 hS
  refine WL.assign rfl rfl ?_
  refine WL.done ?_
  refine W.seq ?_
  refine W.region ?_
  refine SL.alloc (cs := [.int .i64 (0 : Int)]) hS Try.el3 rfl rfl ?_
  intro g13 w14 hS
  refine SL.store (cs' := [.int .i64 (0 : Int)]) 0 0 hS rfl Try.el3 rfl rfl rfl (of_ble rfl) rfl ?_
  intro w15 hS
  refine WL.done ?_
  refine W.seq ?_
  refine W.seq ?_
  refine W.region ?_
  refine WL.move rfl rfl ?_
  refine SL.call hS (ok_backward (hS.ro hl) hv) Try.func91 rfl Try.nm91 rfl rfl ?_
  rintro _ _ w16 ⟨g17, rfl, rfl, hv⟩ hGw16 hS
  change St _ _ _ _ [.row 22 1 (some ⟨g17, 0, none⟩) 1 1 [.slice Al l.length kl], .row 3 1 (some ⟨g13, 0, none⟩) 1 1 [.int .i64 (0 : Int)], .row 3 1 (some ⟨g11, 0, none⟩) 1 1 [.int .i64 p]] at hS
  refine WL.done ?_
  refine W.block ?_
  obtain ⟨I22, hv, hk29, hd30⟩ := hv
  change St _ _ _ _ [.row 22 1 (some ⟨g17, 0, none⟩) 1 1 [.slice Al l.length kl], .row 3 1 (some ⟨g13, 0, none⟩) 1 1 [.int .i64 (0 : Int)], .row 3 1 (some ⟨g11, 0, none⟩) 1 1 [.int .i64 p]] at hS
  refine SR.range (σ := Int) (fun i q => match q with | z21 => I22 i z21) (fun z21 => [.row 22 1 (some ⟨g17, 0, none⟩) 1 1 [.slice Al l.length kl], .row 3 1 (some ⟨g13, 0, none⟩) 1 1 [.int .i64 z21], .row 3 1 (some ⟨g11, 0, none⟩) 1 1 [.int .i64 p]]) (fun _ _ => False) (fun vs => [(2, .pointer (some ⟨g11, 0, none⟩)), (4, .int .i64 (0 : Int)), (5, .pointer (some ⟨g13, 0, none⟩)), (7, vs.getD 1 undef)]) (0 : Int) hS hv (fun q => by obtain z21 := q; exact trivial) rfl Try.func92 rfl Try.nm92 (backward_seq (A := Al) (m := l.length) (c := kl) (Rd.m64 (hS.ro hl))) (Below.refl _ _) (fun _ _ _ h => by obtain ⟨_, h, _⟩ := h; rw [h]; rfl) (fun i x => bw_stay) (by decide) (fun _ q _ _ hS => by obtain z21 := q; exact ⟨Own.vcells (hS.own (i := 0) rfl) 0 _ rfl, _, _, (hS.ro hl)⟩) ?_ ?_ ?_ ?_
  · intro lq vsq W1q hlq
    match vsq, hlq with
    | [a0, a1], _ =>
      refine W.region ?_
      refine WL.assign rfl rfl ?_
      refine WL.done ?_
      exact ⟨rfl, rfl, ⟨rfl, rfl, rfl, rfl, trivial⟩⟩
  · rintro lq i18 _ z21 w23 hi ⟨vb, rfl, hcell⟩ hI hS
    have hvb : vb = (gi l ((l.length - 1 - i18 : Nat) : Int)) := bw_val (hS.ro hl) (by omega) hcell
    subst hvb
    have hv := hk29 i18 hi z21 hI
    refine W.block ?_
    refine W.region ?_
    refine WL.load Try.underlying3 rfl rfl (Own.vcells (hS.own (i := 1) rfl) 0 _ rfl) rfl ?_
    refine WL.load Try.underlying3 rfl rfl (Own.vcells (hS.own (i := 2) rfl) 0 _ rfl) rfl ?_
    obtain ⟨o24, hv⟩ := hv
    refine WL.mul (r := (z21 * p)) rfl rfl (wr o24) rfl ?_
    refine WL.move rfl rfl ?_
    obtain ⟨o25, hv⟩ := hv
    refine WL.add (r := ((z21 * p) + (gi l ((l.length - 1 - i18 : Nat) : Int)))) rfl rfl (wr o25) rfl ?_
    refine SL.store (cs' := [.int .i64 ((z21 * p) + (gi l ((l.length - 1 - i18 : Nat) : Int)))]) 1 0 hS rfl Try.el3 rfl rfl rfl (of_ble rfl) rfl ?_
    intro w26 hS
    refine WL.done ?_
    change St _ _ _ _ [.row 22 1 (some ⟨g17, 0, none⟩) 1 1 [.slice Al l.length kl], .row 3 1 (some ⟨g13, 0, none⟩) 1 1 [.int .i64 ((z21 * p) + (gi l ((l.length - 1 - i18 : Nat) : Int)))], .row 3 1 (some ⟨g11, 0, none⟩) 1 1 [.int .i64 p]] at hS
    exact ⟨((z21 * p) + (gi l ((l.length - 1 - i18 : Nat) : Int))), hv, hS⟩
  · rintro D27 z21 w28 hv hD hS
    have hv := hd30 z21 hv
    refine W.seq ?_
    refine W.region ?_
    refine WL.load Try.underlying3 rfl rfl (Own.vcells (hS.own (i := 2) rfl) 0 _ rfl) rfl ?_
    refine WL.assign rfl rfl ?_
    refine WL.done ?_
    refine W.ret ?_
    have hS := hS.pick [0] rfl
    obtain ⟨hDD27, hS⟩ := hS.taken trivial
    refine ⟨_, rfl, Fin.cons hDD27 (Fin.nil ?_)⟩
    exact ⟨_, hS.ext, (hS.pick [] rfl).rows, News.of (hS.pick [] rfl).rows rfl, ⟨z21, rfl, rfl, hv⟩⟩
  · rintro _ e _ _ _ hv; exact hv.elim
end Go.Proofs.Ytlibahphimfmjaa
