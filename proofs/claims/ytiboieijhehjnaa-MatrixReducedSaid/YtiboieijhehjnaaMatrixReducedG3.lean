/- Contracts of functions of the program, and what they lean on: Ab, D1, It, Gf, D2. -/
import Derived.Test.YtiboieijhehjnaaMatrixReducedG2
namespace Go.Proofs.Ytiboieijhehjnaa
open Go.RowKit
abbrev XA117_0 := Try.fla117_0
abbrev XA117_1 := Try.fla117_1
abbrev XA117_2 := Try.fla117_2
abbrev XA117_3 := Try.fla117_3
abbrev XA117_4 := Try.fla117_4
abbrev XA24_0 := Try.fla24_0
abbrev XA24_1 := Try.fla24_1
abbrev XA24_2 := Try.fla24_2
abbrev XA27_0 := Try.fla27_0
abbrev XA27_1 := Try.fla27_1
abbrev XB117 := Try.bld117
abbrev XB24 := Try.bld24
abbrev XB27 := Try.bld27
abbrev XE121 := Try.el121
abbrev XE22 := Try.el22
abbrev XE24 := Try.el24
abbrev XE25 := Try.el25
abbrev XE27 := Try.el27
abbrev XE3 := Try.el3
abbrev XE4 := Try.el4
abbrev XF100 := Try.func100
abbrev XF101 := Try.func101
abbrev XF104 := Try.func104
abbrev XF105 := Try.func105
abbrev XF107 := Try.func107
abbrev XF108 := Try.func108
abbrev XF109 := Try.func109
abbrev XF110 := Try.func110
abbrev XF111 := Try.func111
abbrev XF112 := Try.func112
abbrev XF113 := Try.func113
abbrev XF114 := Try.func114
abbrev XF115 := Try.func115
abbrev XF116 := Try.func116
abbrev XF117 := Try.func117
abbrev XF118 := Try.func118
abbrev XF119 := Try.func119
abbrev XF120 := Try.func120
abbrev XF121 := Try.func121
abbrev XF122 := Try.func122
abbrev XF123 := Try.func123
abbrev XF124 := Try.func124
abbrev XF125 := Try.func125
abbrev XF126 := Try.func126
abbrev XF127 := Try.func127
abbrev XF128 := Try.func128
abbrev XF129 := Try.func129
abbrev XF130 := Try.func130
abbrev XF131 := Try.func131
abbrev XF132 := Try.func132
abbrev XF133 := Try.func133
abbrev XF134 := Try.func134
abbrev XF135 := Try.func135
abbrev XF136 := Try.func136
abbrev XF15 := Try.func15
abbrev XF16 := Try.func16
abbrev XF17 := Try.func17
abbrev XF19 := Try.func19
abbrev XF20 := Try.func20
abbrev XF21 := Try.func21
abbrev XF22 := Try.func22
abbrev XF23 := Try.func23
abbrev XF24 := Try.func24
abbrev XF25 := Try.func25
abbrev XF26 := Try.func26
abbrev XF28 := Try.func28
abbrev XF32 := Try.func32
abbrev XF33 := Try.func33
abbrev XF36 := Try.func36
abbrev XF4 := Try.func4
abbrev XF46 := Try.func46
abbrev XF49 := Try.func49
abbrev XF54 := Try.func54
abbrev XF56 := Try.func56
abbrev XF58 := Try.func58
abbrev XF59 := Try.func59
abbrev XF61 := Try.func61
abbrev XF62 := Try.func62
abbrev XF64 := Try.func64
abbrev XF65 := Try.func65
abbrev XF66 := Try.func66
abbrev XF67 := Try.func67
abbrev XF68 := Try.func68
abbrev XF70 := Try.func70
abbrev XF71 := Try.func71
abbrev XF72 := Try.func72
abbrev XF73 := Try.func73
abbrev XF75 := Try.func75
abbrev XF79 := Try.func79
abbrev XF80 := Try.func80
abbrev XF81 := Try.func81
abbrev XF86 := Try.func86
abbrev XF87 := Try.func87
abbrev XF88 := Try.func88
abbrev XF89 := Try.func89
abbrev XF90 := Try.func90
abbrev XF91 := Try.func91
abbrev XF92 := Try.func92
abbrev XF93 := Try.func93
abbrev XF94 := Try.func94
abbrev XF95 := Try.func95
abbrev XF96 := Try.func96
abbrev XF97 := Try.func97
abbrev XF98 := Try.func98
abbrev XF99 := Try.func99
abbrev XG24 := Try.agg24
abbrev XG27 := Try.agg27
abbrev XN100 := Try.nm100
abbrev XN101 := Try.nm101
abbrev XN104 := Try.nm104
abbrev XN105 := Try.nm105
abbrev XN107 := Try.nm107
abbrev XN108 := Try.nm108
abbrev XN109 := Try.nm109
abbrev XN110 := Try.nm110
abbrev XN111 := Try.nm111
abbrev XN112 := Try.nm112
abbrev XN113 := Try.nm113
abbrev XN114 := Try.nm114
abbrev XN115 := Try.nm115
abbrev XN116 := Try.nm116
abbrev XN117 := Try.nm117
abbrev XN118 := Try.nm118
abbrev XN119 := Try.nm119
abbrev XN120 := Try.nm120
abbrev XN121 := Try.nm121
abbrev XN122 := Try.nm122
abbrev XN123 := Try.nm123
abbrev XN124 := Try.nm124
abbrev XN125 := Try.nm125
abbrev XN126 := Try.nm126
abbrev XN127 := Try.nm127
abbrev XN128 := Try.nm128
abbrev XN129 := Try.nm129
abbrev XN130 := Try.nm130
abbrev XN131 := Try.nm131
abbrev XN132 := Try.nm132
abbrev XN133 := Try.nm133
abbrev XN134 := Try.nm134
abbrev XN135 := Try.nm135
abbrev XN136 := Try.nm136
abbrev XN15 := Try.nm15
abbrev XN16 := Try.nm16
abbrev XN17 := Try.nm17
abbrev XN19 := Try.nm19
abbrev XN20 := Try.nm20
abbrev XN21 := Try.nm21
abbrev XN22 := Try.nm22
abbrev XN23 := Try.nm23
abbrev XN24 := Try.nm24
abbrev XN25 := Try.nm25
abbrev XN26 := Try.nm26
abbrev XN28 := Try.nm28
abbrev XN32 := Try.nm32
abbrev XN33 := Try.nm33
abbrev XN36 := Try.nm36
abbrev XN46 := Try.nm46
abbrev XN49 := Try.nm49
abbrev XN54 := Try.nm54
abbrev XN56 := Try.nm56
abbrev XN58 := Try.nm58
abbrev XN59 := Try.nm59
abbrev XN61 := Try.nm61
abbrev XN62 := Try.nm62
abbrev XN64 := Try.nm64
abbrev XN65 := Try.nm65
abbrev XN66 := Try.nm66
abbrev XN67 := Try.nm67
abbrev XN68 := Try.nm68
abbrev XN70 := Try.nm70
abbrev XN71 := Try.nm71
abbrev XN72 := Try.nm72
abbrev XN73 := Try.nm73
abbrev XN75 := Try.nm75
abbrev XN79 := Try.nm79
abbrev XN80 := Try.nm80
abbrev XN81 := Try.nm81
abbrev XN86 := Try.nm86
abbrev XN87 := Try.nm87
abbrev XN88 := Try.nm88
abbrev XN89 := Try.nm89
abbrev XN90 := Try.nm90
abbrev XN91 := Try.nm91
abbrev XN92 := Try.nm92
abbrev XN93 := Try.nm93
abbrev XN94 := Try.nm94
abbrev XN95 := Try.nm95
abbrev XN96 := Try.nm96
abbrev XN97 := Try.nm97
abbrev XN98 := Try.nm98
abbrev XN99 := Try.nm99
abbrev XU109 := Try.underlying109
abbrev XU121 := Try.underlying121
abbrev XU22 := Try.underlying22
abbrev XU25 := Try.underlying25
abbrev XU3 := Try.underlying3
abbrev XU4 := Try.underlying4
abbrev XU58 := Try.underlying58
abbrev XU69 := Try.underlying69
end Go.Proofs.Ytiboieijhehjnaa
set_option linter.unusedSimpArgs false
set_option linter.unusedVariables false
set_option maxRecDepth 4000
set_option maxHeartbeats 4000000
namespace Go.Proofs.Ytiboieijhehjnaa
open Go.RowKit
def V_okIf (b : Bool) (Q : Int → Prop) : Prop :=
  ((b = true) → (Q (0 : Int))) ∧ (b = false → (Q (1 : Int)))
theorem ok_okIf {w : World} {Q : Int → Prop} {b : Bool}  (hv : V_okIf b Q) :
   Calls Try.prog 121 #[.bool b] w fun e w' => ∃ v Qr, e = .returned v ∧ w.grownBy w' none ∧ Rows w.heap.size none w' Qr ∧ News w.heap.size Qr ∧ ∃ (r0 : Int), v = .int .i64 r0 ∧ Qr = [] ∧ Q r0 := by
 refine calls_swap <| calls_of_W (vs := [.bool b]) [2] XF121 rfl rfl rfl rfl ?_; have hS := St.start w; unfold V_okIf at hv; refine W.seq <| W.region <| WL.assign rfl rfl <| WL.done <| W.seq <| W.seq <| W.region <| WL.move rfl rfl <| WL.done <| W.cond2 rfl (fun c11 => ?_) (fun c11 => ?_)
 ·have hv := hv.1 (c11); refine W.seq <| W.region <| WL.assign rfl rfl <| WL.done <| W.ret <| ⟨_, rfl, Fin.nil ?_⟩
  exact ⟨_, hS.ext, (hS.pick [] rfl).rows, News.of (hS.pick [] rfl).rows rfl, ⟨(0 : Int), rfl, rfl, hv⟩⟩
 have hv := hv.2 (c11); refine W.skip <| W.seq <| W.region <| WL.assign rfl rfl <| WL.done <| W.ret <| ⟨_, rfl, Fin.nil ?_⟩
 exact ⟨_, hS.ext, (hS.pick [] rfl).rows, News.of (hS.pick [] rfl).rows rfl, ⟨(1 : Int), rfl, rfl, hv⟩⟩
def V_leastDivisor (x : Int) (Q : Int → Prop) : Prop :=
  ∃ (I14 : Int → Prop) (μ15 : Int → Nat), I14 (2 : Int) ∧ ∀ (z13 : Int), (I14 z13 → ((I64 (z13 * z13)) ∧ ((((z13 * z13) ≤ x) → ((z13 ≠ 0) ∧ ((((x.tmod z13) = (0 : Int)) → Q z13) ∧ (¬ ((x.tmod z13) = (0 : Int)) → ((I64 (z13 + (1 : Int))) ∧ (I14 (z13 + (1 : Int)) ∧ μ15 (z13 + (1 : Int)) < μ15 z13)))))) ∧ (¬ ((z13 * z13) ≤ x) → Q x))))
theorem ok_leastDivisor {w : World} {Q : Int → Prop} {x : Int}  (hv : V_leastDivisor x Q) :
   Calls Try.prog 127 #[.int .i64 x] w fun e w' => ∃ v Qr, e = .returned v ∧ w.grownBy w' none ∧ Rows w.heap.size none w' Qr ∧ News w.heap.size Qr ∧ ∃ (r0 : Int), v = .int .i64 r0 ∧ Qr = [] ∧ Q r0 := by
 refine calls_swap <| calls_of_W (vs := [.int .i64 x]) [2] XF127 rfl rfl rfl rfl ?_; have hS := St.start w; unfold V_leastDivisor at hv; refine W.seq <| W.region <| WL.assign rfl rfl <| WL.done <| W.seq <| W.seq <| W.region <| WL.assign rfl rfl <| WL.done <| W.block ?_; obtain ⟨I14, μ15, hv, hk22⟩ := hv; refine W.loop (σ := Int) (fun z13 w1 => I14 z13 ∧ St TT w none w1 []) (fun z13 => [(0, .int .i64 x), (2, .int .i64 (0 : Int)), (3, .int .i64 z13)]) (fun z13 => μ15 z13) (2 : Int) ⟨hv, hS⟩ ⟨rfl, rfl, rfl, trivial⟩ ?_; rintro z13 w16 ⟨hv, hS⟩; have hv := hk22 z13 hv; refine W.seq <| W.seq <| W.region <| WL.move rfl rfl <| WL.move rfl rfl ?_; obtain ⟨o17, hv⟩ := hv; refine WL.mul (r := (z13 * z13)) rfl rfl (wr o17) rfl <| WL.move rfl rfl <| WL.leqD rfl rfl rfl <| WL.done <| W.cond2 rfl (fun c18 => ?_) (fun c18 => ?_)
 ·have hv := hv.1 (of_decide_eq_true c18); refine W.skip <| W.seq <| W.block <| W.seq <| W.region <| WL.move rfl rfl <| WL.move rfl rfl ?_; obtain ⟨o19, hv⟩ := hv; refine WL.rem (r := (x.tmod z13)) rfl rfl o19 rfl rfl <| WL.eqlD rfl rfl rfl <| WL.done <| W.cond2 rfl (fun c20 => ?_) (fun c20 => ?_)
  ·have hv := hv.1 (of_decide_eq_true c20); refine W.seq <| W.region <| WL.move rfl rfl <| WL.assign rfl rfl <| WL.done <| W.ret <| ⟨_, rfl, Fin.nil ?_⟩
   exact ⟨_, hS.ext, (hS.pick [] rfl).rows, News.of (hS.pick [] rfl).rows rfl, ⟨z13, rfl, rfl, hv⟩⟩
  have hv := hv.2 (of_decide_eq_false c20); refine W.skip <| W.region <| WL.move rfl rfl ?_; obtain ⟨o21, hv⟩ := hv; refine WL.add (r := (z13 + (1 : Int))) rfl rfl (wr o21) rfl <| WL.assign rfl rfl <| WL.done ?_; exact ⟨(z13 + (1 : Int)), ⟨rfl, rfl, rfl, trivial⟩, hv.2, rfl, hv.1, hS⟩
 have hv := hv.2 (of_decide_eq_false c18); refine W.exit <| W.seq <| W.region <| WL.move rfl rfl <| WL.assign rfl rfl <| WL.done <| W.ret <| ⟨_, rfl, Fin.nil ?_⟩
 exact ⟨_, hS.ext, (hS.pick [] rfl).rows, News.of (hS.pick [] rfl).rows rfl, ⟨x, rfl, rfl, hv⟩⟩
def V_isPrime (x : Int) (Q : Bool → Prop) : Prop :=
  (((2 : Int) ≤ x) → (V_leastDivisor x (fun r13 => Q (decide (r13 = x))))) ∧ (¬ ((2 : Int) ≤ x) → Q false)
theorem ok_isPrime {w : World} {Q : Bool → Prop} {x : Int}  (hv : V_isPrime x Q) :
   Calls Try.prog 120 #[.int .i64 x] w fun e w' => ∃ v Qr, e = .returned v ∧ w.grownBy w' none ∧ Rows w.heap.size none w' Qr ∧ News w.heap.size Qr ∧ ∃ (r0 : Bool), v = .bool r0 ∧ Qr = [] ∧ Q r0 := by
 refine calls_swap <| calls_of_W (vs := [.int .i64 x]) [2] XF120 rfl rfl rfl rfl ?_; have hS := St.start w; unfold V_isPrime at hv; refine W.seq <| W.region <| WL.assign rfl rfl <| WL.done <| W.seq <| W.region <| WL.move rfl rfl <| WL.geqD rfl rfl rfl <| WL.move rfl rfl ?_; by_cases g11 : (2 : Int) ≤ x
 ·have hv := hv.1 g11; rw [decide_eq_true g11]; refine WL.take rfl <| WL.move rfl rfl <| WL.take rfl <| SL.call hS (ok_leastDivisor  hv) XF127 rfl XN127 rfl rfl ?_; rintro _ _ w12 ⟨r13, rfl, rfl, hv⟩ hGw12 hS; have hS := hS.n0; refine WL.take rfl <| WL.move rfl rfl <| WL.take rfl <| WL.eqlD rfl rfl rfl <| WL.pick rfl rfl rfl <| WL.assign rfl rfl <| WL.done <| W.ret <| ⟨_, rfl, Fin.nil ?_⟩
  exact ⟨_, hS.ext, (hS.pick [] rfl).rows, News.of (hS.pick [] rfl).rows rfl, ⟨(decide (r13 = x)), rfl, rfl, hv⟩⟩
 have hv := hv.2 g11; rw [decide_eq_false g11]; refine WL.pass rfl rfl rfl <| WL.pass rfl rfl rfl <| WL.pass rfl rfl rfl <| WL.pass rfl rfl rfl <| WL.pick rfl rfl rfl <| WL.assign rfl rfl <| WL.done <| W.ret <| ⟨_, rfl, Fin.nil ?_⟩
 exact ⟨_, hS.ext, (hS.pick [] rfl).rows, News.of (hS.pick [] rfl).rows rfl, ⟨false, rfl, rfl, hv⟩⟩
def V_order (Pf : Int) (Mf : Int) (mf : List Int) (Q : Int → Prop) : Prop :=
  ∃ J14 : Int → Prop, (∃ (I21 : Int → Int → Prop) (μ22 : Int → Int → Nat), I21 (1 : Int) (0 : Int) ∧ ∀ (z19 : Int) (z20 : Int), (I21 z19 z20 → (((z20 < Mf) → (((z19 ≤ (256 : Int)) → ((I64 (z19 * Pf)) ∧ ((I64 (z20 + (1 : Int))) ∧ (I21 (z19 * Pf) (z20 + (1 : Int)) ∧ μ22 (z19 * Pf) (z20 + (1 : Int)) < μ22 z19 z20)))) ∧ (¬ (z19 ≤ (256 : Int)) → J14 z19))) ∧ (¬ (z20 < Mf) → J14 z19)))) ∧ ∀ (z13 : Int), (J14 z13 → Q z13)
theorem ok_order {w : World} {Q : Int → Prop} {Pf : Int} {Mf : Int} {mf : List Int} {Bf : Nat} {Af : Option Addr} {nf kf : Nat} (hf : Rd Bf w 1 Af nf kf (is mf)) (hv : V_order Pf Mf mf Q) :
   Calls Try.prog 113 #[.agg #[.int .i64 Pf, .int .i64 Mf, .slice Af nf kf]] w fun e w' => ∃ v Qr, e = .returned v ∧ w.grownBy w' none ∧ Rows w.heap.size none w' Qr ∧ News w.heap.size Qr ∧ ∃ (r0 : Int), v = .int .i64 r0 ∧ Qr = [] ∧ Q r0 := by
 have hnf := hf.ilen; subst hnf; refine calls_swap <| calls_of_W (vs := [.agg #[.int .i64 Pf, .int .i64 Mf, .slice Af mf.length kf]]) [2] XF113 rfl rfl rfl rfl ?_; have hS := St.start w; unfold V_order at hv; refine W.seq <| W.region <| SL.box (z := 3) (cs := [.int .i64 Pf, .int .i64 Mf, .slice Af mf.length kf]) hS rfl rfl rfl rfl ?_; intro g11 w12 hS; refine WL.assign rfl rfl <| WL.done <| W.seq <| W.region <| WL.assign rfl rfl <| WL.done <| W.seq <| W.seq <| W.region <| WL.assign rfl rfl <| WL.done ?_; obtain ⟨J14, hv, hk30⟩ := hv; refine W.cutN (σ := Int) (fun z13 w1 => J14 z13 ∧ St TT w none w1 [.row 24 3 (some ⟨g11, 0, none⟩) 1 1 [.int .i64 Pf, .int .i64 Mf, .slice Af mf.length kf]]) (fun z13 => [(2, .int .i64 (0 : Int)), (3, .int .i64 z13)]) ?_ ?_
 ·refine W.block ?_; obtain ⟨I21, μ22, hv, hk28⟩ := hv; refine W.loop (σ := Int × Int) (fun q w1 => match q with | (z19, z20) => I21 z19 z20 ∧ St TT w none w1 [.row 24 3 (some ⟨g11, 0, none⟩) 1 1 [.int .i64 Pf, .int .i64 Mf, .slice Af mf.length kf]]) (fun q => match q with | (z19, z20) => [(1, .pointer (some ⟨g11, 0, none⟩)), (2, .int .i64 (0 : Int)), (3, .int .i64 z19), (4, .int .i64 z20)]) (fun q => match q with | (z19, z20) => μ22 z19 z20) ((1 : Int), (0 : Int)) ⟨hv, hS⟩ ⟨rfl, rfl, rfl, rfl, trivial⟩ ?_; rintro ⟨z19, z20⟩ w23 ⟨hv, hS⟩; have hv := hk28 z19 z20 hv; refine W.seq <| W.seq <| W.region <| WL.move rfl rfl <| WL.fieldA (off := 1) XA24_1 rfl rfl <| WL.load XU3 rfl rfl (Own.vcells (hS.own (i := 0) rfl) 1 _ rfl) rfl <| WL.lssD rfl rfl rfl <| WL.move rfl rfl ?_; by_cases g24 : z20 < Mf
  ·have hv := hv.1 g24; rw [decide_eq_true g24]; refine WL.take rfl <| WL.move rfl rfl <| WL.take rfl <| WL.leqD rfl rfl rfl <| WL.pick rfl rfl rfl <| WL.done <| W.cond2 rfl (fun c25 => ?_) (fun c25 => ?_)
   ·have hv := hv.1 (of_decide_eq_true c25); refine W.skip <| W.seq <| W.block <| W.region <| WL.move rfl rfl <| WL.fieldA (off := 0) XA24_0 rfl rfl <| WL.load XU3 rfl rfl (Own.vcells (hS.own (i := 0) rfl) 0 _ rfl) rfl ?_; obtain ⟨o26, hv⟩ := hv; refine WL.mul (r := (z19 * Pf)) rfl rfl (wr o26) rfl <| WL.assign rfl rfl <| WL.done <| W.region <| WL.move rfl rfl ?_; obtain ⟨o27, hv⟩ := hv; refine WL.add (r := (z20 + (1 : Int))) rfl rfl (wr o27) rfl <| WL.assign rfl rfl <| WL.done ?_; exact ⟨((z19 * Pf), (z20 + (1 : Int))), ⟨rfl, rfl, rfl, rfl, trivial⟩, hv.2, rfl, hv.1, hS⟩
   have hv := hv.2 (of_decide_eq_false c25); refine W.exit ?_; exact ⟨z19, ⟨rfl, rfl, trivial⟩, rfl, hv, hS⟩
  have hv := hv.2 g24; rw [decide_eq_false g24]; refine WL.pass rfl rfl rfl <| WL.pass rfl rfl rfl <| WL.pick rfl rfl rfl <| WL.done <| W.condF rfl <| W.exit ?_; exact ⟨z19, ⟨rfl, rfl, trivial⟩, rfl, hv, hS⟩
 rintro z13 w29 ⟨hv, hS⟩; have hv := hk30 z13 hv; refine W.seq <| W.region <| WL.move rfl rfl <| WL.assign rfl rfl <| WL.done <| W.ret <| ⟨_, rfl, Fin.nil ?_⟩
 exact ⟨_, hS.ext, (hS.pick [] rfl).rows, News.of (hS.pick [] rfl).rows rfl, ⟨z13, rfl, rfl, hv⟩⟩
def V_digits (p : Int) (n : Int) (x : Int) (Q : List Int → Prop) : Prop :=
  (0 ≤ n ∧ n * 8 ≤ 281474976710656 ∧ n ≤ 281474976710656) ∧ (∃ (I24 : List Int → Int → Int → Prop) (μ25 : List Int → Int → Int → Nat), I24 (List.replicate n.toNat (0 : Int)) x (0 : Int) ∧ ∀ (x21 : List Int) (z22 : Int) (z23 : Int), (I24 x21 z22 z23 → (((z23 < ((n.toNat : Nat) : Int)) → ((p ≠ 0) ∧ ((0 ≤ z23 ∧ z23 < (n.toNat : Nat)) ∧ ((p ≠ 0 ∧ I64 (z22.tdiv p)) ∧ ((I64 (z23 + (1 : Int))) ∧ (I24 (si x21 z23 (z22.tmod p)) (z22.tdiv p) (z23 + (1 : Int)) ∧ μ25 (si x21 z23 (z22.tmod p)) (z22.tdiv p) (z23 + (1 : Int)) < μ25 x21 z22 z23)))))) ∧ (¬ (z23 < ((n.toNat : Nat) : Int)) → Q x21))))
theorem ok_digits {w : World} {Q : List Int → Prop} {p : Int} {n : Int} {x : Int}  (hv : V_digits p n x Q) :
  Calls Try.prog 129 #[.int .i64 p, .int .i64 n, .int .i64 x] w fun e w' => ∃ v Qr, e = .returned v ∧ w.grownBy w' none ∧ Rows w.heap.size none w' Qr ∧ News w.heap.size Qr ∧ ∃ (x : List Int)  (A : Option Addr) (c : Nat), v = .slice A x.length c ∧ Qr = [.row 3 1 A x.length c (is x)] ∧ Q x := by
 refine calls_swap <| calls_of_W (vs := [.int .i64 p, .int .i64 n, .int .i64 x]) [6] XF129 rfl rfl rfl rfl ?_; have hS := St.start w; unfold V_digits at hv; refine W.seq <| W.region <| WL.assign rfl rfl <| WL.done <| W.seq <| W.region <| WL.move rfl rfl ?_; obtain ⟨o11, hv⟩ := hv; refine SL.make (J := n) hS XU22 XE3 rfl rfl o11 (made_is _) rfl ?_; intro A12 w13 hS; refine WL.assign rfl rfl <| WL.done <| W.seq <| W.seq <| W.region <| WL.move rfl rfl <| WL.len XU22 rfl rfl <| WL.move rfl rfl <| WL.done <| W.block ?_; obtain ⟨I24, μ25, hv, hk33⟩ := hv; refine W.loop (σ := List Int × Int × Int) (fun q w1 => match q with | (x21, z22, z23) => I24 x21 z22 z23 ∧ St TT w none w1 [.row 3 1 A12 n.toNat n.toNat (is x21)]) (fun q => match q with | (x21, z22, z23) => [(0, .int .i64 p), (2, .int .i64 z22), (6, .slice none 0 0), (7, .slice A12 n.toNat n.toNat), (12, .int .i64 ((n.toNat : Nat) : Int)), (13, .int .i64 z23)]) (fun q => match q with | (x21, z22, z23) => μ25 x21 z22 z23) (List.replicate n.toNat (0 : Int), x, (0 : Int)) ⟨hv, hS⟩ ⟨rfl, rfl, rfl, rfl, rfl, rfl, trivial⟩ ?_; rintro ⟨x21, z22, z23⟩ w26 ⟨hv, hS⟩; have hv := hk33 x21 z22 z23 hv; refine W.seq <| W.region <| WL.lssD rfl rfl rfl <| WL.done <| W.seq <| W.cond2 rfl (fun c27 => ?_) (fun c27 => ?_)
 ·have hv := hv.1 (of_decide_eq_true c27); refine W.skip <| W.seq <| W.block <| W.seq <| W.region <| WL.move rfl rfl <| WL.assign rfl rfl <| WL.done <| W.seq <| W.region <| WL.move rfl rfl <| WL.move rfl rfl <| WL.move rfl rfl <| WL.move rfl rfl ?_; obtain ⟨o28, hv⟩ := hv; refine WL.rem (r := (z22.tmod p)) rfl rfl o28 rfl rfl ?_; obtain ⟨o29, hv⟩ := hv; refine SL.index XU22 XE3 (hS.rd (i := 0) rfl) rfl rfl o29 rfl <| SL.store (cs' := is (si x21 z23 (z22.tmod p))) 0 z23.toNat hS rfl XE3 rfl rfl rfl (is_lt (hS.rd (i := 0) rfl) o29) (is_set _ _ _) ?_; intro w30 hS; refine WL.done <| W.region <| WL.move rfl rfl <| WL.move rfl rfl ?_; obtain ⟨o31, hv⟩ := hv; refine WL.quo (r := (z22.tdiv p)) rfl rfl o31.1 (wr o31.2) rfl <| WL.assign rfl rfl <| WL.done <| W.region ?_; obtain ⟨o32, hv⟩ := hv; refine WL.add (r := (z23 + (1 : Int))) rfl rfl (wr o32) rfl <| WL.move rfl rfl <| WL.done ?_; exact ⟨(si x21 z23 (z22.tmod p), (z22.tdiv p), (z23 + (1 : Int))), ⟨rfl, rfl, rfl, rfl, rfl, rfl, trivial⟩, hv.2, rfl, hv.1, hS⟩
 have hv := hv.2 (of_decide_eq_false c27); refine W.exit <| W.seq <| W.region <| WL.move rfl rfl <| WL.assign rfl rfl <| WL.done <| W.ret ?_; have hm := (hS.rd (i := 0) rfl).ilen; have hS := hS.relen (i := 0) rfl hm.symm; refine ⟨_, rfl, Fin.nil ?_⟩; exact ⟨_, hS.ext, (hS.pick [0] rfl).rows, News.of (hS.pick [0] rfl).rows rfl, ⟨x21, A12, n.toNat, (by rw [hm]), rfl, hv⟩⟩
def V_successor (Pf : Int) (Mf : Int) (mf : List Int) (x : Int) (Q : Int → Prop) : Prop :=
  (Pf ≠ 0) ∧ ((I64 (Pf - (1 : Int))) ∧ ((((x.tmod Pf) = (Pf - (1 : Int))) → ((Pf ≠ 0) ∧ ((I64 (x - (x.tmod Pf))) ∧ (Q (x - (x.tmod Pf)))))) ∧ (¬ ((x.tmod Pf) = (Pf - (1 : Int))) → ((I64 (x + (1 : Int))) ∧ (Q (x + (1 : Int)))))))
theorem ok_successor {w : World} {Q : Int → Prop} {Pf : Int} {Mf : Int} {mf : List Int} {x : Int} {Bf : Nat} {Af : Option Addr} {nf kf : Nat} (hf : Rd Bf w 1 Af nf kf (is mf)) (hv : V_successor Pf Mf mf x Q) :
   Calls Try.prog 115 #[.agg #[.int .i64 Pf, .int .i64 Mf, .slice Af nf kf], .int .i64 x] w fun e w' => ∃ v Qr, e = .returned v ∧ w.grownBy w' none ∧ Rows w.heap.size none w' Qr ∧ News w.heap.size Qr ∧ ∃ (r0 : Int), v = .int .i64 r0 ∧ Qr = [] ∧ Q r0 := by
 have hnf := hf.ilen; subst hnf; refine calls_swap <| calls_of_W (vs := [.agg #[.int .i64 Pf, .int .i64 Mf, .slice Af mf.length kf], .int .i64 x]) [4] XF115 rfl rfl rfl rfl ?_; have hS := St.start w; unfold V_successor at hv; refine W.seq <| W.region <| SL.box (z := 3) (cs := [.int .i64 Pf, .int .i64 Mf, .slice Af mf.length kf]) hS rfl rfl rfl rfl ?_; intro g11 w12 hS; refine WL.assign rfl rfl <| WL.done <| W.seq <| W.seq ?_; obtain ⟨o17, hv⟩ := hv; obtain ⟨o21, hv⟩ := hv; refine W.drawV 8 [⟨[], [1], true⟩, ⟨[], [2], true⟩, ⟨[1], [], false⟩, ⟨[0, 2], [], true⟩, ⟨[], [2], true⟩, ⟨[4], [], false⟩, ⟨[5], [], true⟩, ⟨[3, 6], [], true⟩] [[(1, .int .i64 x)], [(2, .pointer (some ⟨g11, 0, none⟩))], [], [], [(2, .pointer (some ⟨g11, 0, none⟩))], [], [], []] [(5, .int .i64 x), (6, .pointer (some ⟨g11, 0, none⟩)), (7, .int .i64 Pf), (8, .int .i64 (x.tmod Pf)), (9, .pointer (some ⟨g11, 0, none⟩)), (10, .int .i64 Pf), (11, .int .i64 (Pf - (1 : Int))), (12, .bool (decide ((x.tmod Pf) = (Pf - (1 : Int)))))] Try.mixed (by kernel_rfl) rfl rfl ?_ ?_
 · refine ⟨⟨rfl, ⟨rfl, trivial⟩, fun _ _ _ => WL.move rfl rfl <| WL.done ⟨rfl, rfl⟩⟩, ⟨rfl, ⟨rfl, trivial⟩, fun _ _ _ => WL.fieldA (off := 0) XA24_0 rfl rfl <| WL.done ⟨rfl, rfl⟩⟩, ⟨rfl, trivial, fun _ hE _ => have hS := hS.grow (hE rfl); WL.load XU3 rfl rfl (Own.vcells (hS.own (i := 0) rfl) 0 _ rfl) rfl <| WL.done ⟨rfl, ext_refl _⟩⟩, ⟨rfl, trivial, fun _ _ _ => WL.rem (r := (x.tmod Pf)) rfl rfl o17 rfl rfl <| WL.done ⟨rfl, rfl⟩⟩, ⟨rfl, ⟨rfl, trivial⟩, fun _ _ _ => WL.fieldA (off := 0) XA24_0 rfl rfl <| WL.done ⟨rfl, rfl⟩⟩, ⟨rfl, trivial, fun _ hE _ => have hS := hS.grow (hE rfl); WL.load XU3 rfl rfl (Own.vcells (hS.own (i := 0) rfl) 0 _ rfl) rfl <| WL.done ⟨rfl, ext_refl _⟩⟩, ⟨rfl, trivial, fun _ _ _ => WL.sub (r := (Pf - (1 : Int))) rfl rfl (wr o21) rfl <| WL.done ⟨rfl, rfl⟩⟩, ⟨rfl, trivial, fun _ _ _ => WL.eqlD rfl rfl rfl <| WL.done ⟨rfl, rfl⟩⟩, trivial⟩
 intro w23 hT; have hS := hS.grow hT; refine WA.done (by decide +kernel) <| W.cond2 rfl (fun c24 => ?_) (fun c24 => ?_)
 ·have hv := hv.1 (of_decide_eq_true c24); refine W.seq <| W.region <| WL.move rfl rfl <| WL.move rfl rfl <| WL.fieldA (off := 0) XA24_0 rfl rfl <| WL.load XU3 rfl rfl (Own.vcells (hS.own (i := 0) rfl) 0 _ rfl) rfl ?_; obtain ⟨o25, hv⟩ := hv; refine WL.rem (r := (x.tmod Pf)) rfl rfl o25 rfl rfl ?_; obtain ⟨o26, hv⟩ := hv; refine WL.sub (r := (x - (x.tmod Pf))) rfl rfl (wr o26) rfl <| WL.assign rfl rfl <| WL.done <| W.ret <| ⟨_, rfl, Fin.nil ?_⟩
  exact ⟨_, hS.ext, (hS.pick [] rfl).rows, News.of (hS.pick [] rfl).rows rfl, ⟨(x - (x.tmod Pf)), rfl, rfl, hv⟩⟩
 have hv := hv.2 (of_decide_eq_false c24); refine W.skip <| W.seq <| W.region <| WL.move rfl rfl ?_; obtain ⟨o27, hv⟩ := hv; refine WL.add (r := (x + (1 : Int))) rfl rfl (wr o27) rfl <| WL.assign rfl rfl <| WL.done <| W.ret <| ⟨_, rfl, Fin.nil ?_⟩
 exact ⟨_, hS.ext, (hS.pick [] rfl).rows, News.of (hS.pick [] rfl).rows rfl, ⟨(x + (1 : Int)), rfl, rfl, hv⟩⟩
def V_clone (l : List Int) (Q : List Int → Prop) : Prop :=
  ∀ b11 : Bool, (b11 = true → l = []) → (((b11 = true) → (Q ([] : List Int))) ∧ (b11 = false → ((((0 : Nat) + (l.length : Nat) : Int) * 8 ≤ 140737488355328) ∧ (Q (([] : List Int) ++ l)))))
theorem ok_clone {w : World} {Q : List Int → Prop} {l : List Int} {Bl : Nat} {Al : Option Addr} {nl kl : Nat} (hl : Rd Bl w 1 Al nl kl (is l)) (hv : V_clone l Q) :
  Calls Try.prog 91 #[.slice Al nl kl] w fun e w' => ∃ v Qr, e = .returned v ∧ w.grownBy w' none ∧ Rows w.heap.size none w' Qr ∧ News w.heap.size Qr ∧ ∃ (x : List Int)  (A : Option Addr) (c : Nat), v = .slice A x.length c ∧ Qr = [.row 3 1 A x.length c (is x)] ∧ Q x := by
 have hnl := hl.ilen; subst hnl; refine calls_swap <| calls_of_W (vs := [.slice Al l.length kl]) [2] XF91 rfl rfl rfl rfl ?_; have hS := St.start w; unfold V_clone at hv; refine W.seq <| W.region <| WL.assign rfl rfl <| WL.done <| W.seq <| W.seq <| W.region <| WL.move rfl rfl ?_; obtain ⟨b11, hb11⟩ : ∃ b, Al.isNone = b := ⟨_, rfl⟩
 have hv := hv b11 (fun h => Rd.isnone (hS.ro hl) (hb11.trans h)); refine WL.eqlNil hb11 XU22 rfl rfl rfl <| WL.done <| W.cond2 rfl (fun c12 => ?_) (fun c12 => ?_)
 ·have hv := hv.1 (c12); refine W.seq <| W.region <| WL.assign rfl rfl <| WL.done <| W.ret ?_; have hS := hS.nil (e := 3) (z := 1); refine ⟨_, rfl, Fin.nil ?_⟩; exact ⟨_, hS.ext, (hS.pick [0] rfl).rows, News.of (hS.pick [0] rfl).rows rfl, ⟨([] : List Int), none, 0, rfl, rfl, hv⟩⟩
 have hv := hv.2 (c12); refine W.skip <| W.seq <| W.region <| SL.lit1 (vs := is ([] : List Int)) hS XU22 XE3 rfl rfl rfl rfl (is_one _) rfl ?_; intro A13 w14 hS; refine WL.move rfl rfl ?_; obtain ⟨o16, hv⟩ := hv; refine SL.append (cs := is ([] : List Int)) (cs' := is l) 0 ((([] : List Int) ++ l).length) (is (([] : List Int) ++ l)) hS rfl XU22 XE3 (hS.ro hl) (is_one _) rfl rfl (apk o16).1 (apk o16).2 (is_ap (hS.rd (i := 0) rfl) (hS.ro hl)) (is_append _ _) rfl ?_; intro A17 k18 w19 hS; refine WL.assign rfl rfl <| WL.done <| W.ret <| ⟨_, rfl, Fin.nil ?_⟩
 exact ⟨_, hS.ext, (hS.pick [0] rfl).rows, News.of (hS.pick [0] rfl).rows rfl, ⟨([] : List Int) ++ l, A17, k18, rfl, rfl, hv⟩⟩
def V_rOrder (Pf : Int) (Mf : Int) (mf : List Int) (Q : Int → Prop) : Prop :=
  ((Pf < (2 : Int)) → (Q (0 : Int))) ∧ (¬ (Pf < (2 : Int)) → (((Mf < (1 : Int)) → (Q (0 : Int))) ∧ (¬ (Mf < (1 : Int)) → ((((8 : Int) < Mf) → (Q (0 : Int))) ∧ (¬ ((8 : Int) < Mf) → (∃ (I22 : Int → Int → Prop) (μ23 : Int → Int → Nat), I22 (1 : Int) (0 : Int) ∧ ∀ (z20 : Int) (z21 : Int), (I22 z20 z21 → (((z21 < Mf) → ((Pf ≠ 0 ∧ I64 ((256 : Int).tdiv Pf)) ∧ (((((256 : Int).tdiv Pf) < z20) → (Q (0 : Int))) ∧ (¬ (((256 : Int).tdiv Pf) < z20) → ((I64 (z20 * Pf)) ∧ ((I64 (z21 + (1 : Int))) ∧ (I22 (z20 * Pf) (z21 + (1 : Int)) ∧ μ23 (z20 * Pf) (z21 + (1 : Int)) < μ23 z20 z21))))))) ∧ (¬ (z21 < Mf) → Q z20)))))))))
theorem ok_rOrder {w : World} {Q : Int → Prop} {Pf : Int} {Mf : Int} {mf : List Int} {Bf : Nat} {Af : Option Addr} {nf kf : Nat} (hf : Rd Bf w 1 Af nf kf (is mf)) (hv : V_rOrder Pf Mf mf Q) :
   Calls Try.prog 26 #[.agg #[.int .i64 Pf, .int .i64 Mf, .slice Af nf kf]] w fun e w' => ∃ v Qr, e = .returned v ∧ w.grownBy w' none ∧ Rows w.heap.size none w' Qr ∧ News w.heap.size Qr ∧ ∃ (r0 : Int), v = .int .i64 r0 ∧ Qr = [] ∧ Q r0 := by
 have hnf := hf.ilen; subst hnf; refine calls_swap <| calls_of_W (vs := [.agg #[.int .i64 Pf, .int .i64 Mf, .slice Af mf.length kf]]) [2] XF26 rfl rfl rfl rfl ?_; have hS := St.start w; unfold V_rOrder at hv; refine W.seq <| W.region <| SL.box (z := 3) (cs := [.int .i64 Pf, .int .i64 Mf, .slice Af mf.length kf]) hS rfl rfl rfl rfl ?_; intro g11 w12 hS; refine WL.assign rfl rfl <| WL.done <| W.seq <| W.seq <| W.region <| WL.fieldA (off := 0) XA24_0 rfl rfl <| WL.load XU3 rfl rfl (Own.vcells (hS.own (i := 0) rfl) 0 _ rfl) rfl <| WL.lssD rfl rfl rfl <| WL.move rfl rfl ?_; by_cases g13 : Pf < (2 : Int)
 ·have hv := hv.1 g13; rw [decide_eq_true g13]; refine WL.pass rfl rfl rfl <| WL.pass rfl rfl rfl <| WL.pass rfl rfl rfl <| WL.pick rfl rfl rfl <| WL.move rfl rfl <| WL.pass rfl rfl rfl <| WL.pass rfl rfl rfl <| WL.pass rfl rfl rfl <| WL.pick rfl rfl rfl <| WL.done <| W.condT rfl <| W.seq <| W.region <| WL.assign rfl rfl <| WL.done <| W.ret <| ⟨_, rfl, Fin.nil ?_⟩
  exact ⟨_, hS.ext, (hS.pick [] rfl).rows, News.of (hS.pick [] rfl).rows rfl, ⟨(0 : Int), rfl, rfl, hv⟩⟩
 have hv := hv.2 g13; rw [decide_eq_false g13]; refine WL.take rfl <| WL.fieldA (off := 1) XA24_1 rfl rfl <| WL.take rfl <| WL.load XU3 rfl rfl (Own.vcells (hS.own (i := 0) rfl) 1 _ rfl) rfl <| WL.take rfl <| WL.lssD rfl rfl rfl <| WL.pick rfl rfl rfl <| WL.move rfl rfl ?_; by_cases g14 : Mf < (1 : Int)
 ·have hv := hv.1 g14; rw [decide_eq_true g14]; refine WL.pass rfl rfl rfl <| WL.pass rfl rfl rfl <| WL.pass rfl rfl rfl <| WL.pick rfl rfl rfl <| WL.done <| W.condT rfl <| W.seq <| W.region <| WL.assign rfl rfl <| WL.done <| W.ret <| ⟨_, rfl, Fin.nil ?_⟩
  exact ⟨_, hS.ext, (hS.pick [] rfl).rows, News.of (hS.pick [] rfl).rows rfl, ⟨(0 : Int), rfl, rfl, hv⟩⟩
 have hv := hv.2 g14; rw [decide_eq_false g14]; refine WL.take rfl <| WL.fieldA (off := 1) XA24_1 rfl rfl <| WL.take rfl <| WL.load XU3 rfl rfl (Own.vcells (hS.own (i := 0) rfl) 1 _ rfl) rfl <| WL.take rfl <| WL.gtrD rfl rfl rfl <| WL.pick rfl rfl rfl <| WL.done <| W.cond2 rfl (fun c15 => ?_) (fun c15 => ?_)
 ·have hv := hv.1 (of_decide_eq_true c15); refine W.seq <| W.region <| WL.assign rfl rfl <| WL.done <| W.ret <| ⟨_, rfl, Fin.nil ?_⟩
  exact ⟨_, hS.ext, (hS.pick [] rfl).rows, News.of (hS.pick [] rfl).rows rfl, ⟨(0 : Int), rfl, rfl, hv⟩⟩
 have hv := hv.2 (of_decide_eq_false c15); refine W.skip <| W.seq <| W.region <| WL.assign rfl rfl <| WL.done <| W.seq <| W.seq <| W.region <| WL.assign rfl rfl <| WL.done <| W.block ?_; obtain ⟨I22, μ23, hv, hk30⟩ := hv; refine W.loop (σ := Int × Int) (fun q w1 => match q with | (z20, z21) => I22 z20 z21 ∧ St TT w none w1 [.row 24 3 (some ⟨g11, 0, none⟩) 1 1 [.int .i64 Pf, .int .i64 Mf, .slice Af mf.length kf]]) (fun q => match q with | (z20, z21) => [(1, .pointer (some ⟨g11, 0, none⟩)), (2, .int .i64 (0 : Int)), (3, .int .i64 z20), (4, .int .i64 z21)]) (fun q => match q with | (z20, z21) => μ23 z20 z21) ((1 : Int), (0 : Int)) ⟨hv, hS⟩ ⟨rfl, rfl, rfl, rfl, trivial⟩ ?_; rintro ⟨z20, z21⟩ w24 ⟨hv, hS⟩; have hv := hk30 z20 z21 hv; refine W.seq <| W.seq <| W.region <| WL.move rfl rfl <| WL.fieldA (off := 1) XA24_1 rfl rfl <| WL.load XU3 rfl rfl (Own.vcells (hS.own (i := 0) rfl) 1 _ rfl) rfl <| WL.lssD rfl rfl rfl <| WL.done <| W.cond2 rfl (fun c25 => ?_) (fun c25 => ?_)
 ·have hv := hv.1 (of_decide_eq_true c25); refine W.skip <| W.seq <| W.block <| W.seq <| W.seq <| W.region <| WL.move rfl rfl <| WL.fieldA (off := 0) XA24_0 rfl rfl <| WL.load XU3 rfl rfl (Own.vcells (hS.own (i := 0) rfl) 0 _ rfl) rfl ?_; obtain ⟨o26, hv⟩ := hv; refine WL.quo (r := ((256 : Int).tdiv Pf)) rfl rfl o26.1 (wr o26.2) rfl <| WL.gtrD rfl rfl rfl <| WL.done <| W.cond2 rfl (fun c27 => ?_) (fun c27 => ?_)
  ·have hv := hv.1 (of_decide_eq_true c27); refine W.seq <| W.region <| WL.assign rfl rfl <| WL.done <| W.ret <| ⟨_, rfl, Fin.nil ?_⟩
   exact ⟨_, hS.ext, (hS.pick [] rfl).rows, News.of (hS.pick [] rfl).rows rfl, ⟨(0 : Int), rfl, rfl, hv⟩⟩
  have hv := hv.2 (of_decide_eq_false c27); refine W.skip <| W.region <| WL.move rfl rfl <| WL.fieldA (off := 0) XA24_0 rfl rfl <| WL.load XU3 rfl rfl (Own.vcells (hS.own (i := 0) rfl) 0 _ rfl) rfl ?_; obtain ⟨o28, hv⟩ := hv; refine WL.mul (r := (z20 * Pf)) rfl rfl (wr o28) rfl <| WL.assign rfl rfl <| WL.done <| W.region <| WL.move rfl rfl ?_; obtain ⟨o29, hv⟩ := hv; refine WL.add (r := (z21 + (1 : Int))) rfl rfl (wr o29) rfl <| WL.assign rfl rfl <| WL.done ?_; exact ⟨((z20 * Pf), (z21 + (1 : Int))), ⟨rfl, rfl, rfl, rfl, trivial⟩, hv.2, rfl, hv.1, hS⟩
 have hv := hv.2 (of_decide_eq_false c25); refine W.exit <| W.seq <| W.region <| WL.move rfl rfl <| WL.assign rfl rfl <| WL.done <| W.ret <| ⟨_, rfl, Fin.nil ?_⟩
 exact ⟨_, hS.ext, (hS.pick [] rfl).rows, News.of (hS.pick [] rfl).rows rfl, ⟨z20, rfl, rfl, hv⟩⟩
def V_rprime (x : Int) (Q : Bool → Prop) : Prop :=
  ∃ (I14 : Int → Prop) (μ15 : Int → Nat), I14 (2 : Int) ∧ ∀ (z13 : Int), (I14 z13 → (((z13 < x) → ((z13 ≠ 0) ∧ ((((x.tmod z13) = (0 : Int)) → Q false) ∧ (¬ ((x.tmod z13) = (0 : Int)) → ((I64 (z13 + (1 : Int))) ∧ (I14 (z13 + (1 : Int)) ∧ μ15 (z13 + (1 : Int)) < μ15 z13)))))) ∧ (¬ (z13 < x) → Q true)))
theorem ok_rprime {w : World} {Q : Bool → Prop} {x : Int}  (hv : V_rprime x Q) :
   Calls Try.prog 79 #[.int .i64 x] w fun e w' => ∃ v Qr, e = .returned v ∧ w.grownBy w' none ∧ Rows w.heap.size none w' Qr ∧ News w.heap.size Qr ∧ ∃ (r0 : Bool), v = .bool r0 ∧ Qr = [] ∧ Q r0 := by
 refine calls_swap <| calls_of_W (vs := [.int .i64 x]) [2] XF79 rfl rfl rfl rfl ?_; have hS := St.start w; unfold V_rprime at hv; refine W.seq <| W.region <| WL.assign rfl rfl <| WL.done <| W.seq <| W.seq <| W.region <| WL.assign rfl rfl <| WL.done <| W.block ?_; obtain ⟨I14, μ15, hv, hk21⟩ := hv; refine W.loop (σ := Int) (fun z13 w1 => I14 z13 ∧ St TT w none w1 []) (fun z13 => [(0, .int .i64 x), (2, .bool false), (3, .int .i64 z13)]) (fun z13 => μ15 z13) (2 : Int) ⟨hv, hS⟩ ⟨rfl, rfl, rfl, trivial⟩ ?_; rintro z13 w16 ⟨hv, hS⟩; have hv := hk21 z13 hv; refine W.seq <| W.seq <| W.region <| WL.move rfl rfl <| WL.move rfl rfl <| WL.lssD rfl rfl rfl <| WL.done <| W.cond2 rfl (fun c17 => ?_) (fun c17 => ?_)
 ·have hv := hv.1 (of_decide_eq_true c17); refine W.skip <| W.seq <| W.block <| W.seq <| W.region <| WL.move rfl rfl <| WL.move rfl rfl ?_; obtain ⟨o18, hv⟩ := hv; refine WL.rem (r := (x.tmod z13)) rfl rfl o18 rfl rfl <| WL.eqlD rfl rfl rfl <| WL.done <| W.cond2 rfl (fun c19 => ?_) (fun c19 => ?_)
  ·have hv := hv.1 (of_decide_eq_true c19); refine W.seq <| W.region <| WL.assign rfl rfl <| WL.done <| W.ret <| ⟨_, rfl, Fin.nil ?_⟩
   exact ⟨_, hS.ext, (hS.pick [] rfl).rows, News.of (hS.pick [] rfl).rows rfl, ⟨false, rfl, rfl, hv⟩⟩
  have hv := hv.2 (of_decide_eq_false c19); refine W.skip <| W.region <| WL.move rfl rfl ?_; obtain ⟨o20, hv⟩ := hv; refine WL.add (r := (z13 + (1 : Int))) rfl rfl (wr o20) rfl <| WL.assign rfl rfl <| WL.done ?_; exact ⟨(z13 + (1 : Int)), ⟨rfl, rfl, rfl, trivial⟩, hv.2, rfl, hv.1, hS⟩
 have hv := hv.2 (of_decide_eq_false c17); refine W.exit <| W.seq <| W.region <| WL.assign rfl rfl <| WL.done <| W.ret <| ⟨_, rfl, Fin.nil ?_⟩
 exact ⟨_, hS.ext, (hS.pick [] rfl).rows, News.of (hS.pick [] rfl).rows rfl, ⟨true, rfl, rfl, hv⟩⟩
def V_rdigits (x : Int) (p : Int) (n : Int) (Q : List Int → Prop) : Prop :=
  (0 ≤ n ∧ n * 8 ≤ 281474976710656 ∧ n ≤ 281474976710656) ∧ (∃ (I24 : List Int → Int → Int → Prop) (μ25 : List Int → Int → Int → Nat), I24 (List.replicate n.toNat (0 : Int)) x (0 : Int) ∧ ∀ (x21 : List Int) (z22 : Int) (z23 : Int), (I24 x21 z22 z23 → (((z23 < n) → ((p ≠ 0) ∧ ((0 ≤ z23 ∧ z23 < (n.toNat : Nat)) ∧ ((p ≠ 0 ∧ I64 (z22.tdiv p)) ∧ ((I64 (z23 + (1 : Int))) ∧ (I24 (si x21 z23 (z22.tmod p)) (z22.tdiv p) (z23 + (1 : Int)) ∧ μ25 (si x21 z23 (z22.tmod p)) (z22.tdiv p) (z23 + (1 : Int)) < μ25 x21 z22 z23)))))) ∧ (¬ (z23 < n) → Q x21))))
theorem ok_rdigits {w : World} {Q : List Int → Prop} {x : Int} {p : Int} {n : Int}  (hv : V_rdigits x p n Q) :
  Calls Try.prog 108 #[.int .i64 x, .int .i64 p, .int .i64 n] w fun e w' => ∃ v Qr, e = .returned v ∧ w.grownBy w' none ∧ Rows w.heap.size none w' Qr ∧ News w.heap.size Qr ∧ ∃ (x : List Int)  (A : Option Addr) (c : Nat), v = .slice A x.length c ∧ Qr = [.row 3 1 A x.length c (is x)] ∧ Q x := by
 refine calls_swap <| calls_of_W (vs := [.int .i64 x, .int .i64 p, .int .i64 n]) [6] XF108 rfl rfl rfl rfl ?_; have hS := St.start w; unfold V_rdigits at hv; refine W.seq <| W.region <| WL.assign rfl rfl <| WL.done <| W.seq <| W.region <| WL.move rfl rfl ?_; obtain ⟨o11, hv⟩ := hv; refine SL.make (J := n) hS XU22 XE3 rfl rfl o11 (made_is _) rfl ?_; intro A12 w13 hS; refine WL.assign rfl rfl <| WL.done <| W.seq <| W.seq <| W.region <| WL.assign rfl rfl <| WL.done <| W.block ?_; obtain ⟨I24, μ25, hv, hk33⟩ := hv; refine W.loop (σ := List Int × Int × Int) (fun q w1 => match q with | (x21, z22, z23) => I24 x21 z22 z23 ∧ St TT w none w1 [.row 3 1 A12 n.toNat n.toNat (is x21)]) (fun q => match q with | (x21, z22, z23) => [(0, .int .i64 z22), (1, .int .i64 p), (2, .int .i64 n), (6, .slice none 0 0), (7, .slice A12 n.toNat n.toNat), (8, .int .i64 z23)]) (fun q => match q with | (x21, z22, z23) => μ25 x21 z22 z23) (List.replicate n.toNat (0 : Int), x, (0 : Int)) ⟨hv, hS⟩ ⟨rfl, rfl, rfl, rfl, rfl, rfl, trivial⟩ ?_; rintro ⟨x21, z22, z23⟩ w26 ⟨hv, hS⟩; have hv := hk33 x21 z22 z23 hv; refine W.seq <| W.seq <| W.region <| WL.move rfl rfl <| WL.move rfl rfl <| WL.lssD rfl rfl rfl <| WL.done <| W.cond2 rfl (fun c27 => ?_) (fun c27 => ?_)
 ·have hv := hv.1 (of_decide_eq_true c27); refine W.skip <| W.seq <| W.block <| W.seq <| W.region <| WL.move rfl rfl <| WL.move rfl rfl <| WL.move rfl rfl <| WL.move rfl rfl ?_; obtain ⟨o28, hv⟩ := hv; refine WL.rem (r := (z22.tmod p)) rfl rfl o28 rfl rfl ?_; obtain ⟨o29, hv⟩ := hv; refine SL.index XU22 XE3 (hS.rd (i := 0) rfl) rfl rfl o29 rfl <| SL.store (cs' := is (si x21 z23 (z22.tmod p))) 0 z23.toNat hS rfl XE3 rfl rfl rfl (is_lt (hS.rd (i := 0) rfl) o29) (is_set _ _ _) ?_; intro w30 hS; refine WL.done <| W.region <| WL.move rfl rfl <| WL.move rfl rfl ?_; obtain ⟨o31, hv⟩ := hv; refine WL.quo (r := (z22.tdiv p)) rfl rfl o31.1 (wr o31.2) rfl <| WL.assign rfl rfl <| WL.done <| W.region <| WL.move rfl rfl ?_; obtain ⟨o32, hv⟩ := hv; refine WL.add (r := (z23 + (1 : Int))) rfl rfl (wr o32) rfl <| WL.assign rfl rfl <| WL.done ?_; exact ⟨(si x21 z23 (z22.tmod p), (z22.tdiv p), (z23 + (1 : Int))), ⟨rfl, rfl, rfl, rfl, rfl, rfl, trivial⟩, hv.2, rfl, hv.1, hS⟩
 have hv := hv.2 (of_decide_eq_false c27); refine W.exit <| W.seq <| W.region <| WL.move rfl rfl <| WL.assign rfl rfl <| WL.done <| W.ret ?_; have hm := (hS.rd (i := 0) rfl).ilen; have hS := hS.relen (i := 0) rfl hm.symm; refine ⟨_, rfl, Fin.nil ?_⟩; exact ⟨_, hS.ext, (hS.pick [0] rfl).rows, News.of (hS.pick [0] rfl).rows rfl, ⟨x21, A12, n.toNat, (by rw [hm]), rfl, hv⟩⟩
end Go.Proofs.Ytiboieijhehjnaa
set_option linter.unusedSimpArgs false
set_option linter.unusedVariables false
namespace Go.Proofs.Ytiboieijhehjnaa
open Go.RowKit
theorem backward_seq {w : World} {p : Addr} {A : Option Addr} {m c : Nat} (hm : m ≤ 9223372036854775807) :
    SeqJ Try.prog 136 #[.pointer (some p)] (fun w1 => w1.cell? p = some (.slice A m c) ∧ ∃ l : List Int, ∃ B, Rd B w1 1 A m c (is l)) (fun i x w1 => ∃ v : Int, x = #[.int .i64 ((m - 1 - i : Nat) : Int), .int .i64 v] ∧ w1.cell? ((adOf A).add (m - 1 - i)) = some (.int .i64 v)) m w := by
  intro l J Jx Wn hW hJ hJx hM hY h0
  refine calls_of_W (vs := [.func (.yield l) #[] #[], .pointer (some p)]) (R := fun _ w' => J m w' ∨ ∃ i, i ≤ m ∧ Jx i w') [] Try.func136 rfl rfl rfl rfl ?_
  have hM0 := hM 0 Wn h0
  refine W.seq ?_
  refine W.region ?_
  refine WL.load Try.underlying22 rfl rfl hM0.1 rfl ?_
  refine WL.len Try.underlying22 rfl rfl ?_
  refine WL.sub (r := (m : Int) - 1) rfl rfl (wi64 (by omega) (by omega) rfl) rfl ?_
  refine WL.assign rfl rfl ?_
  refine WL.done ?_
  refine W.block ?_
  refine W.loop (σ := Nat) (fun i w1 => J i w1 ∧ i ≤ m) (fun i => [(0, .func (.yield l) #[] #[]), (1, .pointer (some p)), (3, .int .i64 ((m : Int) - 1 - i))]) (fun i => m - i) 0 ⟨h0, Nat.zero_le _⟩ ⟨rfl, rfl, iv (by omega), trivial⟩ ?_
  rintro i w1 ⟨hi, hle⟩
  obtain ⟨hMp, xs, Bx, hR⟩ := hM i w1 hi
  refine W.seq ?_
  refine W.seq ?_
  refine W.region ?_
  refine WL.move rfl rfl ?_
  refine WL.geqD rfl rfl rfl ?_
  refine WL.done ?_
  refine W.cond2 rfl (fun c => ?_) (fun c => ?_)
  · have c := of_decide_eq_true c
    have hj : (m : Int) - 1 - i = ((m - 1 - i : Nat) : Int) := by omega
    rw [hj]
    refine W.skip ?_
    refine W.seq ?_
    refine W.block ?_
    refine W.seq ?_
    refine W.region ?_
    refine WL.move rfl rfl ?_
    refine WL.move rfl rfl ?_
    refine WL.load Try.underlying22 rfl rfl hMp rfl ?_
    refine WL.move rfl rfl ?_
    refine WL.index1 (m - 1 - i) Try.underlying22 Try.el3 rfl rfl rfl (by omega) hR rfl ?_
    have hcell := hR.at_ (is_at (show m - 1 - i < xs.length by have := hR.ilen; omega))
    refine WL.load Try.underlying3 rfl rfl hcell rfl ?_
    refine WL.yield (vs := [.int .i64 ((m - 1 - i : Nat) : Int), .int .i64 (xs.getD (m - 1 - i) 0)]) rfl rfl rfl (hY i #[.int .i64 ((m - 1 - i : Nat) : Int), .int .i64 (xs.getD (m - 1 - i) 0)] w1 hi (by omega) ⟨_, rfl, hcell⟩) (fun e w' h => by rcases h with ⟨h, _⟩ | ⟨h, _⟩ <;> exact ⟨_, h⟩) ?_
    rintro v w2 (⟨hv, h⟩ | ⟨hv, h⟩)
    · cases hv
      refine WL.not rfl rfl ?_
      refine WL.done ?_
      refine W.condF rfl ?_
      refine W.skip ?_
      refine W.region ?_
      refine WL.move rfl rfl ?_
      refine WL.sub (r := (m : Int) - 1 - ((i + 1 : Nat) : Int)) rfl rfl (wi64 (by omega) (by omega) (by omega)) rfl ?_
      refine WL.assign rfl rfl ?_
      refine WL.done ?_
      exact ⟨i + 1, ⟨rfl, rfl, rfl, trivial⟩, by omega, rfl, h, by omega⟩
    · cases hv
      refine WL.not rfl rfl ?_
      refine WL.done ?_
      refine W.condT rfl ?_
      refine W.ret ?_
      exact ⟨_, rfl, Fin.nil (.inr ⟨i + 1, by omega, h⟩)⟩
  · have c := of_decide_eq_false c
    refine W.exit ?_
    have : i = m := by omega
    subst this
    exact ⟨_, rfl, Fin.nil (.inl hi)⟩
theorem elements_seq {w : World} {p ad : Addr} {q : Int} (hq : I64 q) (hp : w.cell? p = some (.pointer (some ad))) (ha : w.cell? (ad.add 3) = some (.int .i64 q)) :
  SeqJ Try.prog 130 #[.pointer (some p)] (fun _ => True) (fun i x _ => x = #[.int .i64 (i : Int)]) q.toNat w := by
 intro l J Jx Wn hW hJ hJx _ hY h0; have hp' : Wn.cell? p = some (.pointer (some ad)) := (hW.cell (World.block_lt_of_cell? w _ hp)).trans hp; have ha' : Wn.cell? (ad.add 3) = some (.int .i64 q) := (hW.cell (World.block_lt_of_cell? w _ ha)).trans ha; refine calls_of_W (vs := [.func (.yield l) #[] #[], .pointer (some p)]) (R := fun _ w' => J q.toNat w' ∨ ∃ i, i ≤ q.toNat ∧ Jx i w') [] Try.func130 rfl rfl rfl rfl ?_; refine W.seq ?_; refine W.region ?_; refine WL.load Try.underlying69 rfl rfl hp' rfl ?_; refine WL.nilCheck rfl rfl ?_; refine WL.fieldA (off := 3) Try.fla117_1 rfl rfl ?_; refine WL.load Try.underlying3 rfl rfl ha' rfl ?_; refine WL.move rfl rfl ?_; refine WL.done ?_; refine W.block ?_; refine W.loop (σ := Nat) (fun i w1 => J i w1 ∧ i ≤ q.toNat) (fun i => [(0, .func (.yield l) #[] #[]), (7, .int .i64 q), (8, .int .i64 (i : Int))]) (fun i => q.toNat - i) 0 ⟨h0, Nat.zero_le _⟩ ⟨rfl, rfl, rfl, trivial⟩ ?_; rintro i w1 ⟨hi, hle⟩; refine W.seq ?_; refine W.region ?_; refine WL.lssD rfl rfl rfl ?_; refine WL.done ?_; refine W.seq ?_; refine W.cond2 rfl (fun c => ?_) (fun c => ?_)
 ·have c := of_decide_eq_true c; refine W.skip ?_; refine W.seq ?_; refine W.block ?_; refine W.seq ?_; refine W.region ?_; refine WL.move rfl rfl ?_; refine WL.assign rfl rfl ?_; refine WL.done ?_; refine W.seq ?_; refine W.region ?_; refine WL.move rfl rfl ?_; refine WL.move rfl rfl ?_; refine WL.yield (vs := [.int .i64 (i : Int)]) rfl rfl rfl (hY i #[.int .i64 (i : Int)] w1 hi (by omega) rfl) (fun e w' h => by rcases h with ⟨h, _⟩ | ⟨h, _⟩ <;> exact ⟨_, h⟩) ?_; rintro v w2 (⟨hv, h⟩ | ⟨hv, h⟩)
  ·cases hv; refine WL.not rfl rfl ?_; refine WL.done ?_; refine W.condF rfl ?_; refine W.skip ?_; refine W.region ?_; refine WL.add (r := ((i + 1 : Nat) : Int)) rfl rfl (wi64 (by omega) (by have := hq.2; omega) (by omega)) rfl ?_; refine WL.move rfl rfl ?_; refine WL.done ?_; exact ⟨i + 1, ⟨rfl, rfl, rfl, trivial⟩, by omega, rfl, h, by omega⟩
  ·cases hv; refine WL.not rfl rfl ?_; refine WL.done ?_; refine W.condT rfl ?_; refine W.ret ?_; exact ⟨_, rfl, Fin.nil (.inr ⟨i + 1, by omega, h⟩)⟩
 ·have c := of_decide_eq_false c; refine W.exit ?_; have : i = q.toNat := by omega
  subst this; exact ⟨_, rfl, Fin.nil (.inl hi)⟩
end Go.Proofs.Ytiboieijhehjnaa
set_option linter.unusedSimpArgs false
set_option linter.unusedVariables false
namespace Go.Proofs.Ytiboieijhehjnaa
open Go.RowKit
structure GFv where
  P : Int
  M : Int
  mod : List Int
  q : Int
  exp : List Int
  log : List Int
  above : List Int
def GFR (B : Nat) (w : World) (ad : Addr) (F : GFv) : Prop := ∃ A1 k1 A2 k2 A3 k3 A4 k4,
  Rd B w 7 (some ad) 1 1 [.int .i64 F.P, .int .i64 F.M, .slice A1 F.mod.length k1, .int .i64 F.q, .slice A2 F.exp.length k2, .slice A3 F.log.length k3, .slice A4 F.above.length k4] ∧
  Rd B w 1 A1 F.mod.length k1 (is F.mod) ∧ Rd B w 1 A2 F.exp.length k2 (is F.exp) ∧ Rd B w 1 A3 F.log.length k3 (is F.log) ∧ Rd B w 1 A4 F.above.length k4 (is F.above)
theorem GFR.ext {B : Nat} {w w' : World} {ad : Addr} {F : GFv} (h : GFR B w ad F) (hg : w.grownBy w' none) : GFR B w' ad F := by
 obtain ⟨A1, k1, A2, k2, A3, k3, A4, k4, h1, h2, h3, h4, h5⟩ := h; exact ⟨A1, k1, A2, k2, A3, k3, A4, k4, h1.ext hg, h2.ext hg, h3.ext hg, h4.ext hg, h5.ext hg⟩
def GFX (lo B : Nat) (w : World) (ad : Addr) (F : GFv) : Prop := ∃ A1 k1 A2 k2 A3 k3 A4 k4,
  (Rd B w 7 (some ad) 1 1 [.int .i64 F.P, .int .i64 F.M, .slice A1 F.mod.length k1, .int .i64 F.q, .slice A2 F.exp.length k2, .slice A3 F.log.length k3, .slice A4 F.above.length k4] ∧ lo ≤ ad.block) ∧
  (Rd B w 1 A1 F.mod.length k1 (is F.mod) ∧ ∀ g, bl A1 = some g → lo ≤ g) ∧ (Rd B w 1 A2 F.exp.length k2 (is F.exp) ∧ ∀ g, bl A2 = some g → lo ≤ g) ∧ (Rd B w 1 A3 F.log.length k3 (is F.log) ∧ ∀ g, bl A3 = some g → lo ≤ g) ∧ (Rd B w 1 A4 F.above.length k4 (is F.above) ∧ ∀ g, bl A4 = some g → lo ≤ g)
theorem GFX.gfr {lo B : Nat} {w : World} {ad : Addr} {F : GFv} (h : GFX lo B w ad F) : GFR B w ad F := by
 obtain ⟨A1, k1, A2, k2, A3, k3, A4, k4, h1, h2, h3, h4, h5⟩ := h; exact ⟨A1, k1, A2, k2, A3, k3, A4, k4, h1.1, h2.1, h3.1, h4.1, h5.1⟩
theorem Rd.steady {lo B : Nat} {w w' : World} {z : Nat} {A : Option Addr} {m c : Nat} {cs : List Value} (h : Rd B w z A m c cs) (hl : ∀ g, bl A = some g → lo ≤ g) (hw : ∀ k, lo ≤ k → k < B → w'.heap[k]? = w.heap[k]?) : Rd B w' z A m c cs :=
 ⟨h.len, h.cap, h.max, fun hm => by
  obtain ⟨ad, e1, e2, e3⟩ := h.cells hm; refine ⟨ad, e1, e2, fun j u hu => (World.cell?_of_block (hw _ ?_ ?_)).trans (e3 j u hu)⟩
  ·rw [block_add]; exact hl _ (by rw [e1]; rfl)
  ·rw [block_add]; exact e2⟩
theorem GFX.steady {lo B : Nat} {ad : Addr} {F : GFv} : Steady lo B (fun w => GFX lo B w ad F) := by
 rintro w w' hw ⟨A1, k1, A2, k2, A3, k3, A4, k4, h1, h2, h3, h4, h5⟩; exact ⟨A1, k1, A2, k2, A3, k3, A4, k4, ⟨h1.1.steady (fun g hg => by cases hg; exact h1.2) hw, h1.2⟩, ⟨h2.1.steady h2.2 hw, h2.2⟩, ⟨h3.1.steady h3.2 hw, h3.2⟩, ⟨h4.1.steady h4.2 hw, h4.2⟩, ⟨h5.1.steady h5.2 hw, h5.2⟩⟩
theorem gfx_mk {lo B : Nat} {w : World} {ad : Addr} {F : GFv} {A1 A2 A3 A4 : Option Addr} {k1 k2 k3 k4 n1 n2 n3 n4 : Nat}
  (h : Rd B w 7 (some ad) 1 1 [.int .i64 F.P, .int .i64 F.M, .slice A1 n1 k1, .int .i64 F.q, .slice A2 n2 k2, .slice A3 n3 k3, .slice A4 n4 k4]) (hl : lo ≤ ad.block)
  (h1 : Rd B w 1 A1 n1 k1 (is F.mod) ∧ ∀ g, bl A1 = some g → lo ≤ g) (h2 : Rd B w 1 A2 n2 k2 (is F.exp) ∧ ∀ g, bl A2 = some g → lo ≤ g) (h3 : Rd B w 1 A3 n3 k3 (is F.log) ∧ ∀ g, bl A3 = some g → lo ≤ g) (h4 : Rd B w 1 A4 n4 k4 (is F.above) ∧ ∀ g, bl A4 = some g → lo ≤ g) : GFX lo B w ad F := by
 have e1 := h1.1.ilen; have e2 := h2.1.ilen; have e3 := h3.1.ilen; have e4 := h4.1.ilen; subst e1; subst e2; subst e3; subst e4; exact ⟨A1, k1, A2, k2, A3, k3, A4, k4, ⟨h, hl⟩, h1, h2, h3, h4⟩
theorem St.base {X : World → Prop} {w0 w : World} {R : List Rw} {i e z m c : Nat} {A : Option Addr} {cs : List Value} (h : St X w0 none w R) (hi : R[i]? = some (.row e z A m c cs)) : ∀ g, bl A = some g → w0.heap.size ≤ g := fun g hg => ((h.rows.get hi).2 g hg).resolve_right (by simp)
theorem GFR.norm {B : Nat} {w : World} {ad : Addr} {F : GFv} (h : GFR B w ad F) : GFR w.heap.size w ad F := by
 obtain ⟨A1, k1, A2, k2, A3, k3, A4, k4, h1, h2, h3, h4, h5⟩ := h; exact ⟨A1, k1, A2, k2, A3, k3, A4, k4, h1.norm, h2.norm, h3.norm, h4.norm, h5.norm⟩
end Go.Proofs.Ytiboieijhehjnaa
set_option linter.unusedSimpArgs false
set_option linter.unusedVariables false
set_option maxRecDepth 4000
set_option maxHeartbeats 4000000
namespace Go.Proofs.Ytiboieijhehjnaa
open Go.RowKit
def V_checkB (x : Int) (Pf : Int) (Mf : Int) (mf : List Int) (Q : Bool → Prop) : Prop :=
  ((x < (0 : Int)) → Q true) ∧ (¬ (x < (0 : Int)) → (Q (decide (Pf ≤ x))))
theorem ok_checkB {w : World} {Q : Bool → Prop} {x : Int} {Pf : Int} {Mf : Int} {mf : List Int} {af : Addr} {Bf Cf : Nat} {Af : Option Addr} {nf kf : Nat} (hcf : Rd Cf w 3 (some af) 1 1 [.int .i64 Pf, .int .i64 Mf, .slice Af nf kf]) (hmf : Rd Bf w 1 Af nf kf (is mf)) (hv : V_checkB x Pf Mf mf Q) :
   Calls Try.prog 122 #[.int .i64 x, .pointer (some af)] w fun e w' => ∃ v Qr, e = .returned v ∧ w.grownBy w' none ∧ Rows w.heap.size none w' Qr ∧ News w.heap.size Qr ∧ ∃ (r0 : Bool), v = .bool r0 ∧ Qr = [] ∧ Q r0 := by
 have hnf := hmf.ilen; subst hnf; refine calls_swap <| calls_of_W (vs := [.int .i64 x, .pointer (some af)]) [3] XF122 rfl rfl rfl rfl ?_; have hS := St.start w; unfold V_checkB at hv; refine W.seq <| W.region <| WL.assign rfl rfl <| WL.done <| W.seq <| W.region <| WL.move rfl rfl <| WL.lssD rfl rfl rfl <| WL.move rfl rfl ?_; by_cases g11 : x < (0 : Int)
 ·have hv := hv.1 g11; rw [decide_eq_true g11]; refine WL.pass rfl rfl rfl <| WL.pass rfl rfl rfl <| WL.pass rfl rfl rfl <| WL.pass rfl rfl rfl <| WL.pick rfl rfl rfl <| WL.assign rfl rfl <| WL.done <| W.ret <| ⟨_, rfl, Fin.nil ?_⟩
  exact ⟨_, hS.ext, (hS.pick [] rfl).rows, News.of (hS.pick [] rfl).rows rfl, ⟨true, rfl, rfl, hv⟩⟩
 have hv := hv.2 g11; rw [decide_eq_false g11]; refine WL.take rfl <| WL.move rfl rfl <| WL.take rfl <| WL.fieldA (off := 0) XA24_0 rfl rfl <| WL.take rfl <| WL.load XU3 rfl rfl (Rd.at_ (hS.ro hcf) (j := 0) rfl) rfl <| WL.take rfl <| WL.geqD rfl rfl rfl <| WL.pick rfl rfl rfl <| WL.assign rfl rfl <| WL.done <| W.ret <| ⟨_, rfl, Fin.nil ?_⟩
 exact ⟨_, hS.ext, (hS.pick [] rfl).rows, News.of (hS.pick [] rfl).rows rfl, ⟨(decide (Pf ≤ x)), rfl, rfl, hv⟩⟩
def V_dividesB (x : Int) (Q : Bool → Prop) : Prop :=
  Q (decide (x ≠ (0 : Int)))
theorem ok_dividesB {w : World} {Q : Bool → Prop} {x : Int}  (hv : V_dividesB x Q) :
  Calls Try.prog 133 #[.int .i64 x] w fun e w' => ∃ v Qr, e = .returned v ∧ w.grownBy w' none ∧ Rows w.heap.size none w' Qr ∧ News w.heap.size Qr ∧ ∃ (r0 : Bool), v = .bool r0 ∧ Qr = [] ∧ Q r0 := by
 refine calls_swap <| calls_of_W (vs := [.int .i64 x]) [2] XF133 rfl rfl rfl rfl ?_; have hS := St.start w; unfold V_dividesB at hv; refine W.seq <| W.region <| WL.assign rfl rfl <| WL.done <| W.seq <| W.region <| WL.move rfl rfl <| WL.neqD rfl rfl rfl <| WL.assign rfl rfl <| WL.done <| W.ret <| ⟨_, rfl, Fin.nil ?_⟩
 exact ⟨_, hS.ext, (hS.pick [] rfl).rows, News.of (hS.pick [] rfl).rows rfl, ⟨(decide (x ≠ (0 : Int))), rfl, rfl, hv⟩⟩
def V_index (l : List Int) (p : Int → (Bool → Prop) → Prop) (Q : Int → Prop) : Prop :=
  ∃ (I14 : Int → Prop) (μ15 : Int → Nat), I14 (0 : Int) ∧ ∀ (z13 : Int), (I14 z13 → (((z13 < ((l.length : Nat) : Int)) → ((0 ≤ z13 ∧ z13 < (l.length : Nat)) ∧ (p (gi l z13) (fun b20 => ((b20 = true) → Q z13) ∧ (b20 = false → ((I64 (z13 + (1 : Int))) ∧ (I14 (z13 + (1 : Int)) ∧ μ15 (z13 + (1 : Int)) < μ15 z13))))))) ∧ (¬ (z13 < ((l.length : Nat) : Int)) → (Q (-1 : Int)))))
theorem ok_index {w : World} {Q : Int → Prop} {l : List Int} {p : Int → (Bool → Prop) → Prop} {Bl : Nat} {Al : Option Addr} {nl kl : Nat} (hl : Rd Bl w 1 Al nl kl (is l)) {cfp : Nat} {cgp : Func} {ccp : Code} {csp : List Value} (hcfp : Try.prog.funcs[cfp]? = some cgp) (hcbp : cgp.body = some ccp) (hcnp : (cgp.name == "runtime.NumGoroutine") = false) (hclp : ∀ (wc : World) (xc : Int) (Qc : Bool → Prop), w.grownBy wc none → p xc Qc → Calls Try.prog cfp (.int .i64 xc :: csp).toArray wc fun e w' => ∃ v Qr, e = .returned v ∧ wc.grownBy w' none ∧ Rows wc.heap.size none w' Qr ∧ News wc.heap.size Qr ∧ ∃ b : Bool, v = .bool b ∧ Qr = [] ∧ Qc b) (hv : V_index l p Q) :
   Calls Try.prog 109 #[.slice Al nl kl, .func (.func cfp) #[] csp.toArray] w fun e w' => ∃ v Qr, e = .returned v ∧ w.grownBy w' none ∧ Rows w.heap.size none w' Qr ∧ News w.heap.size Qr ∧ ∃ (r0 : Int), v = .int .i64 r0 ∧ Qr = [] ∧ Q r0 := by
 have hnl := hl.ilen; subst hnl; refine calls_swap <| calls_of_W (vs := [.slice Al l.length kl, .func (.func cfp) #[] csp.toArray]) [4] XF109 rfl rfl rfl rfl ?_; have hS := St.start w; unfold V_index at hv; refine W.seq <| W.region <| WL.assign rfl rfl <| WL.done <| W.seq <| W.seq <| W.region <| WL.move rfl rfl <| WL.len XU22 rfl rfl <| WL.move rfl rfl <| WL.done <| W.block ?_; obtain ⟨I14, μ15, hv, hk23⟩ := hv; refine W.loop (σ := Int) (fun z13 w1 => I14 z13 ∧ St TT w none w1 []) (fun z13 => [(0, .slice Al l.length kl), (1, .func (.func cfp) #[] csp.toArray), (4, .int .i64 (0 : Int)), (7, .int .i64 ((l.length : Nat) : Int)), (8, .int .i64 z13)]) (fun z13 => μ15 z13) (0 : Int) ⟨hv, hS⟩ ⟨rfl, rfl, rfl, rfl, rfl, trivial⟩ ?_; rintro z13 w16 ⟨hv, hS⟩; have hv := hk23 z13 hv; refine W.seq <| W.region <| WL.lssD rfl rfl rfl <| WL.done <| W.seq <| W.cond2 rfl (fun c17 => ?_) (fun c17 => ?_)
 ·have hv := hv.1 (of_decide_eq_true c17); refine W.skip <| W.seq <| W.block <| W.seq <| W.region <| WL.move rfl rfl <| WL.assign rfl rfl <| WL.done <| W.seq <| W.region <| WL.move rfl rfl <| WL.move rfl rfl <| WL.move rfl rfl ?_; obtain ⟨o18, hv⟩ := hv; refine SL.index XU22 XE3 (hS.ro hl) rfl rfl o18 rfl <| WL.load XU3 rfl rfl (Rd.gi (hS.ro hl) o18) rfl <| SL.callc (vs := [.int .i64 (gi l z13)]) (cs := csp) hS (hclp _ _ _ hS.ext hv) rfl hcfp hcbp hcnp rfl rfl ?_; rintro _ _ w19 ⟨b20, rfl, rfl, hv⟩ hGw19 hS
  change St _ _ _ _ [] at hS
  refine WL.done <| W.cond2 rfl (fun c21 => ?_) (fun c21 => ?_)
  ·have hv := hv.1 (c21); refine W.seq <| W.region <| WL.move rfl rfl <| WL.assign rfl rfl <| WL.done <| W.ret <| ⟨_, rfl, Fin.nil ?_⟩
   exact ⟨_, hS.ext, (hS.pick [] rfl).rows, News.of (hS.pick [] rfl).rows rfl, ⟨z13, rfl, rfl, hv⟩⟩
  have hv := hv.2 (c21); refine W.skip <| W.region ?_; obtain ⟨o22, hv⟩ := hv; refine WL.add (r := (z13 + (1 : Int))) rfl rfl (wr o22) rfl <| WL.move rfl rfl <| WL.done ?_; exact ⟨(z13 + (1 : Int)), ⟨rfl, rfl, rfl, rfl, rfl, trivial⟩, hv.2, rfl, hv.1, hS⟩
 have hv := hv.2 (of_decide_eq_false c17); refine W.exit <| W.seq <| W.region <| WL.assign rfl rfl <| WL.done <| W.ret <| ⟨_, rfl, Fin.nil ?_⟩
 exact ⟨_, hS.ext, (hS.pick [] rfl).rows, News.of (hS.pick [] rfl).rows rfl, ⟨(-1 : Int), rfl, rfl, hv⟩⟩
def V_contains (l : List Int) (p : Int → (Bool → Prop) → Prop) (Q : Bool → Prop) : Prop :=
  V_index l p (fun r12 => Q (decide ((0 : Int) ≤ r12)))
theorem ok_contains {w : World} {Q : Bool → Prop} {l : List Int} {p : Int → (Bool → Prop) → Prop} {Bl : Nat} {Al : Option Addr} {nl kl : Nat} (hl : Rd Bl w 1 Al nl kl (is l)) {cfp : Nat} {cgp : Func} {ccp : Code} {csp : List Value} (hcfp : Try.prog.funcs[cfp]? = some cgp) (hcbp : cgp.body = some ccp) (hcnp : (cgp.name == "runtime.NumGoroutine") = false) (hclp : ∀ (wc : World) (xc : Int) (Qc : Bool → Prop), w.grownBy wc none → p xc Qc → Calls Try.prog cfp (.int .i64 xc :: csp).toArray wc fun e w' => ∃ v Qr, e = .returned v ∧ wc.grownBy w' none ∧ Rows wc.heap.size none w' Qr ∧ News wc.heap.size Qr ∧ ∃ b : Bool, v = .bool b ∧ Qr = [] ∧ Qc b) (hv : V_contains l p Q) :
  Calls Try.prog 81 #[.slice Al nl kl, .func (.func cfp) #[] csp.toArray] w fun e w' => ∃ v Qr, e = .returned v ∧ w.grownBy w' none ∧ Rows w.heap.size none w' Qr ∧ News w.heap.size Qr ∧ ∃ (r0 : Bool), v = .bool r0 ∧ Qr = [] ∧ Q r0 := by
 have hnl := hl.ilen; subst hnl; refine calls_swap <| calls_of_W (vs := [.slice Al l.length kl, .func (.func cfp) #[] csp.toArray]) [4] XF81 rfl rfl rfl rfl ?_; have hS := St.start w; unfold V_contains at hv; refine W.seq <| W.region <| WL.assign rfl rfl <| WL.done <| W.seq <| W.region <| WL.move rfl rfl <| WL.move rfl rfl <| SL.call hS (ok_index (hS.ro hl) hcfp hcbp hcnp (fun wc xc Qc hg hv => hclp wc xc Qc (ext_trans hS.ext hg) hv) hv) XF109 rfl XN109 rfl rfl ?_; rintro _ _ w11 ⟨r12, rfl, rfl, hv⟩ hGw11 hS; have hS := hS.n0; refine WL.geqD rfl rfl rfl <| WL.assign rfl rfl <| WL.done <| W.ret <| ⟨_, rfl, Fin.nil ?_⟩
 exact ⟨_, hS.ext, (hS.pick [] rfl).rows, News.of (hS.pick [] rfl).rows rfl, ⟨(decide ((0 : Int) ≤ r12)), rfl, rfl, hv⟩⟩
def V_divides (p : Int) (l : List Int) (o : List Int) (Q : Bool → Prop) : Prop :=
  V_clone o (fun x12 => (I64 (((x12.length : Nat) : Int) - (1 : Int))) ∧ (∃ (I23 : List Int → Int → Prop) (μ24 : List Int → Int → Nat), I23 x12 (((x12.length : Nat) : Int) - (1 : Int)) ∧ ∀ (x21 : List Int) (z22 : Int), (I23 x21 z22 → (((((l.length : Nat) : Int) ≤ z22) → (∃ (I33 : List Int → Int → Prop) (μ34 : List Int → Int → Nat), I33 x21 (0 : Int) ∧ ∀ (x31 : List Int) (z32 : Int), (I33 x31 z32 → (((z32 < ((l.length : Nat) : Int)) → ((0 ≤ z32 ∧ z32 < (l.length : Nat)) ∧ ((I64 (z22 - ((l.length : Nat) : Int))) ∧ ((I64 ((z22 - ((l.length : Nat) : Int)) + z32)) ∧ ((0 ≤ ((z22 - ((l.length : Nat) : Int)) + z32) ∧ ((z22 - ((l.length : Nat) : Int)) + z32) < (x12.length : Nat)) ∧ ((I64 (p - (gi l z32))) ∧ ((0 ≤ z22 ∧ z22 < (x12.length : Nat)) ∧ ((I64 ((p - (gi l z32)) * (gi x31 z22))) ∧ ((I64 ((gi x31 ((z22 - ((l.length : Nat) : Int)) + z32)) + ((p - (gi l z32)) * (gi x31 z22)))) ∧ ((p ≠ 0) ∧ ((0 ≤ ((z22 - ((l.length : Nat) : Int)) + z32) ∧ ((z22 - ((l.length : Nat) : Int)) + z32) < (x12.length : Nat)) ∧ ((I64 (z32 + (1 : Int))) ∧ (I33 (si x31 ((z22 - ((l.length : Nat) : Int)) + z32) (((gi x31 ((z22 - ((l.length : Nat) : Int)) + z32)) + ((p - (gi l z32)) * (gi x31 z22))).tmod p)) (z32 + (1 : Int)) ∧ μ34 (si x31 ((z22 - ((l.length : Nat) : Int)) + z32) (((gi x31 ((z22 - ((l.length : Nat) : Int)) + z32)) + ((p - (gi l z32)) * (gi x31 z22))).tmod p)) (z32 + (1 : Int)) < μ34 x31 z32))))))))))))) ∧ (¬ (z32 < ((l.length : Nat) : Int)) → ((I64 (z22 - (1 : Int))) ∧ (I23 x31 (z22 - (1 : Int)) ∧ μ24 x31 (z22 - (1 : Int)) < μ24 x21 z22))))))) ∧ (¬ (((l.length : Nat) : Int) ≤ z22) → ((0 ≤ ((l.length : Nat) : Int) ∧ ((l.length : Nat) : Int) ≤ (x12.length : Nat)) ∧ (V_contains (x21.take ((l.length : Nat) : Int).toNat) (fun xc Qc => V_dividesB xc  Qc) (fun r71 => Q (!r71)))))))))
theorem ok_divides {w : World} {Q : Bool → Prop} {p : Int} {l : List Int} {o : List Int} {Bl : Nat} {Al : Option Addr} {nl kl : Nat} (hl : Rd Bl w 1 Al nl kl (is l)) {Bo : Nat} {Ao : Option Addr} {no ko : Nat} (ho : Rd Bo w 1 Ao no ko (is o)) (hv : V_divides p l o Q) :
   Calls Try.prog 128 #[.int .i64 p, .slice Al nl kl, .slice Ao no ko] w fun e w' => ∃ v Qr, e = .returned v ∧ w.grownBy w' none ∧ Rows w.heap.size none w' Qr ∧ News w.heap.size Qr ∧ ∃ (r0 : Bool), v = .bool r0 ∧ Qr = [] ∧ Q r0 := by
 have hnl := hl.ilen; subst hnl; have hno := ho.ilen; subst hno; refine calls_swap <| calls_of_W (vs := [.int .i64 p, .slice Al l.length kl, .slice Ao o.length ko]) [6] XF128 rfl rfl rfl rfl ?_; have hS := St.start w; unfold V_divides at hv; refine W.seq <| W.region <| WL.assign rfl rfl <| WL.done <| W.seq <| W.region <| WL.move rfl rfl <| SL.call hS (ok_clone (hS.ro ho) hv) XF91 rfl XN91 rfl rfl ?_; rintro _ _ w11 ⟨x12, A13, k14, rfl, rfl, hv⟩ hGw11 hS; have hS := hS.n1; refine WL.assign rfl rfl <| WL.done <| W.seq <| W.seq <| W.region <| WL.move rfl rfl <| WL.len XU22 rfl rfl ?_; obtain ⟨o16, hv⟩ := hv; refine WL.sub (r := (((x12.length : Nat) : Int) - (1 : Int))) rfl rfl (wr o16) rfl <| WL.assign rfl rfl <| WL.done <| W.block ?_; obtain ⟨I23, μ24, hv, hk72⟩ := hv; refine W.loop (σ := List Int × Int) (fun q w1 => match q with | (x21, z22) => I23 x21 z22 ∧ St TT w none w1 [.row 3 1 A13 x12.length k14 (is x21)]) (fun q => match q with | (x21, z22) => [(0, .int .i64 p), (1, .slice Al l.length kl), (6, .bool false), (7, .slice A13 x12.length k14), (8, .int .i64 z22)]) (fun q => match q with | (x21, z22) => μ24 x21 z22) (x12, (((x12.length : Nat) : Int) - (1 : Int))) ⟨hv, hS⟩ ⟨rfl, rfl, rfl, rfl, rfl, trivial⟩ ?_; rintro ⟨x21, z22⟩ w25 ⟨hv, hS⟩; have hv := hk72 x21 z22 hv; refine W.seq <| W.seq <| W.region <| WL.move rfl rfl <| WL.move rfl rfl <| WL.len XU22 rfl rfl <| WL.geqD rfl rfl rfl <| WL.done <| W.cond2 rfl (fun c26 => ?_) (fun c26 => ?_)
 ·have hv := hv.1 (of_decide_eq_true c26); refine W.skip <| W.seq <| W.block <| W.seq <| W.region <| WL.move rfl rfl <| WL.len XU22 rfl rfl <| WL.move rfl rfl <| WL.done <| W.block ?_; obtain ⟨I33, μ34, hv, hk68⟩ := hv; refine W.loop (σ := List Int × Int) (fun q w1 => match q with | (x31, z32) => I33 x31 z32 ∧ St TT w none w1 [.row 3 1 A13 x12.length k14 (is x31)]) (fun q => match q with | (x31, z32) => [(0, .int .i64 p), (1, .slice Al l.length kl), (6, .bool false), (7, .slice A13 x12.length k14), (8, .int .i64 z22), (20, .bool (decide (((l.length : Nat) : Int) ≤ z22))), (23, .slice Al l.length kl), (24, .int .i64 ((l.length : Nat) : Int)), (25, .int .i64 z32)]) (fun q => match q with | (x31, z32) => μ34 x31 z32) (x21, (0 : Int)) ⟨hv, hS⟩ ⟨rfl, rfl, rfl, rfl, rfl, rfl, rfl, rfl, rfl, trivial⟩ ?_; rintro ⟨x31, z32⟩ w35 ⟨hv, hS⟩; have hv := hk68 x31 z32 hv; refine W.seq <| W.region <| WL.lssD rfl rfl rfl <| WL.done <| W.seq <| W.cond2 rfl (fun c36 => ?_) (fun c36 => ?_)
  ·have hv := hv.1 (of_decide_eq_true c36); refine W.skip <| W.seq <| W.block <| W.seq <| W.region <| WL.move rfl rfl ?_; obtain ⟨o37, hv⟩ := hv; refine SL.index XU22 XE3 (hS.ro hl) rfl rfl o37 rfl <| WL.load XU3 rfl rfl (Rd.gi (hS.ro hl) o37) rfl <| WL.assign rfl rfl <| WL.assign rfl rfl <| WL.done <| W.seq <| W.region <| WL.move rfl rfl <| WL.move rfl rfl <| WL.len XU22 rfl rfl ?_; obtain ⟨o38, hv⟩ := hv; refine WL.sub (r := (z22 - ((l.length : Nat) : Int))) rfl rfl (wr o38) rfl <| WL.move rfl rfl ?_; obtain ⟨o39, hv⟩ := hv; refine WL.add (r := ((z22 - ((l.length : Nat) : Int)) + z32)) rfl rfl (wr o39) rfl <| WL.assign rfl rfl <| WL.done ?_; obtain ⟨o45, hv⟩ := hv; obtain ⟨o50, hv⟩ := hv; obtain ⟨o54, hv⟩ := hv; obtain ⟨o57, hv⟩ := hv; obtain ⟨o59, hv⟩ := hv; obtain ⟨o62, hv⟩ := hv; refine W.drawV 17 [⟨[], [7], true⟩, ⟨[], [11], true⟩, ⟨[], [7], true⟩, ⟨[], [11], true⟩, ⟨[2, 3], [], true⟩, ⟨[4], [], false⟩, ⟨[], [0], true⟩, ⟨[], [10], true⟩, ⟨[6, 7], [], true⟩, ⟨[], [7], true⟩, ⟨[], [8], true⟩, ⟨[9, 10], [], true⟩, ⟨[11], [], false⟩, ⟨[8, 12], [], true⟩, ⟨[5, 13], [], true⟩, ⟨[], [0], true⟩, ⟨[14, 15], [], true⟩] [[(7, .slice A13 x12.length k14)], [(11, .int .i64 ((z22 - ((l.length : Nat) : Int)) + z32))], [(7, .slice A13 x12.length k14)], [(11, .int .i64 ((z22 - ((l.length : Nat) : Int)) + z32))], [], [], [(0, .int .i64 p)], [(10, .int .i64 (gi l z32))], [], [(7, .slice A13 x12.length k14)], [(8, .int .i64 z22)], [], [], [], [], [(0, .int .i64 p)], []] [(36, .slice A13 x12.length k14), (37, .int .i64 ((z22 - ((l.length : Nat) : Int)) + z32)), (38, .slice A13 x12.length k14), (39, .int .i64 ((z22 - ((l.length : Nat) : Int)) + z32)), (40, .pointer (some ((adOf A13).add (((z22 - ((l.length : Nat) : Int)) + z32).toNat)))), (41, .int .i64 (gi x31 ((z22 - ((l.length : Nat) : Int)) + z32))), (42, .int .i64 p), (43, .int .i64 (gi l z32)), (44, .int .i64 (p - (gi l z32))), (45, .slice A13 x12.length k14), (46, .int .i64 z22), (47, .pointer (some ((adOf A13).add z22.toNat))), (48, .int .i64 (gi x31 z22)), (49, .int .i64 ((p - (gi l z32)) * (gi x31 z22))), (50, .int .i64 ((gi x31 ((z22 - ((l.length : Nat) : Int)) + z32)) + ((p - (gi l z32)) * (gi x31 z22)))), (51, .int .i64 p), (52, .int .i64 (((gi x31 ((z22 - ((l.length : Nat) : Int)) + z32)) + ((p - (gi l z32)) * (gi x31 z22))).tmod p))] Try.mixed (by kernel_rfl) rfl rfl ?_ ?_
   ·refine ⟨⟨rfl, ⟨rfl, trivial⟩, fun _ _ _ => WL.move rfl rfl <| WL.done ⟨rfl, rfl⟩⟩, ⟨rfl, ⟨rfl, trivial⟩, fun _ _ _ => WL.move rfl rfl <| WL.done ⟨rfl, rfl⟩⟩, ⟨rfl, ⟨rfl, trivial⟩, fun _ _ _ => WL.move rfl rfl <| WL.done ⟨rfl, rfl⟩⟩, ⟨rfl, ⟨rfl, trivial⟩, fun _ _ _ => WL.move rfl rfl <| WL.done ⟨rfl, rfl⟩⟩, ⟨rfl, trivial, fun _ _ _ => SL.index XU22 XE3 (hS.rd (i := 0) rfl) rfl rfl o45 rfl <| WL.done ⟨rfl, rfl⟩⟩, ⟨rfl, trivial, fun _ hE _ => have hS := hS.grow (hE rfl); WL.load XU3 rfl rfl (Rd.gi (hS.rd (i := 0) rfl) o45) rfl <| WL.done ⟨rfl, ext_refl _⟩⟩, ⟨rfl, ⟨rfl, trivial⟩, fun _ _ _ => WL.move rfl rfl <| WL.done ⟨rfl, rfl⟩⟩, ⟨rfl, ⟨rfl, trivial⟩, fun _ _ _ => WL.move rfl rfl <| WL.done ⟨rfl, rfl⟩⟩, ⟨rfl, trivial, fun _ _ _ => WL.sub (r := (p - (gi l z32))) rfl rfl (wr o50) rfl <| WL.done ⟨rfl, rfl⟩⟩, ⟨rfl, ⟨rfl, trivial⟩, fun _ _ _ => WL.move rfl rfl <| WL.done ⟨rfl, rfl⟩⟩, ⟨rfl, ⟨rfl, trivial⟩, fun _ _ _ => WL.move rfl rfl <| WL.done ⟨rfl, rfl⟩⟩, ⟨rfl, trivial, fun _ _ _ => SL.index XU22 XE3 (hS.rd (i := 0) rfl) rfl rfl o54 rfl <| WL.done ⟨rfl, rfl⟩⟩, ⟨rfl, trivial, fun _ hE _ => have hS := hS.grow (hE rfl); WL.load XU3 rfl rfl (Rd.gi (hS.rd (i := 0) rfl) o54) rfl <| WL.done ⟨rfl, ext_refl _⟩⟩, ⟨rfl, trivial, fun _ _ _ => WL.mul (r := ((p - (gi l z32)) * (gi x31 z22))) rfl rfl (wr o57) rfl <| WL.done ⟨rfl, rfl⟩⟩, ⟨rfl, trivial, fun _ _ _ => WL.add (r := ((gi x31 ((z22 - ((l.length : Nat) : Int)) + z32)) + ((p - (gi l z32)) * (gi x31 z22)))) rfl rfl (wr o59) rfl <| WL.done ⟨rfl, rfl⟩⟩, ⟨rfl, ⟨rfl, trivial⟩, fun _ _ _ => WL.move rfl rfl <| WL.done ⟨rfl, rfl⟩⟩, ⟨rfl, trivial, fun _ _ _ => WL.rem (r := (((gi x31 ((z22 - ((l.length : Nat) : Int)) + z32)) + ((p - (gi l z32)) * (gi x31 z22))).tmod p)) rfl rfl o62 rfl rfl <| WL.done ⟨rfl, rfl⟩⟩, trivial⟩
   intro w63 hT; have hS := hS.grow hT; refine WA.step1 17 (by decide +kernel) rfl ?_; obtain ⟨o64, hv⟩ := hv; refine SL.index XU22 XE3 (hS.rd (i := 0) rfl) rfl rfl o64 rfl <| WL.done <| WA.step1 18 (by decide +kernel) rfl <| SL.store (cs' := is (si x31 ((z22 - ((l.length : Nat) : Int)) + z32) (((gi x31 ((z22 - ((l.length : Nat) : Int)) + z32)) + ((p - (gi l z32)) * (gi x31 z22))).tmod p))) 0 ((z22 - ((l.length : Nat) : Int)) + z32).toNat hS rfl XE3 rfl rfl rfl (is_lt (hS.rd (i := 0) rfl) o64) (is_set _ _ _) ?_; intro w65 hS; refine WL.done <| WA.done (by decide +kernel) <| W.region ?_; obtain ⟨o66, hv⟩ := hv; refine WL.add (r := (z32 + (1 : Int))) rfl rfl (wr o66) rfl <| WL.move rfl rfl <| WL.done ?_; exact ⟨(si x31 ((z22 - ((l.length : Nat) : Int)) + z32) (((gi x31 ((z22 - ((l.length : Nat) : Int)) + z32)) + ((p - (gi l z32)) * (gi x31 z22))).tmod p), (z32 + (1 : Int))), ⟨rfl, rfl, rfl, rfl, rfl, rfl, rfl, rfl, rfl, trivial⟩, hv.2, rfl, hv.1, hS⟩
  have hv := hv.2 (of_decide_eq_false c36); refine W.exit <| W.region <| WL.move rfl rfl ?_; obtain ⟨o67, hv⟩ := hv; refine WL.sub (r := (z22 - (1 : Int))) rfl rfl (wr o67) rfl <| WL.assign rfl rfl <| WL.done ?_; exact ⟨(x31, (z22 - (1 : Int))), ⟨rfl, rfl, rfl, rfl, rfl, trivial⟩, hv.2, rfl, hv.1, hS⟩
 have hv := hv.2 (of_decide_eq_false c26); refine W.exit <| W.seq <| W.region <| WL.move rfl rfl <| WL.move rfl rfl <| WL.len XU22 rfl rfl ?_; obtain ⟨o69, hv⟩ := hv; refine SL.slTo XU22 XE3 (hS.rd (i := 0) rfl) rfl rfl o69 rfl (x21.take ((l.length : Nat) : Int).toNat).length (pre_len (hS.rd (i := 0) rfl) o69) <| SL.call hS (ok_contains (Rd.pre (hS.rd (i := 0) rfl) o69) XF133 rfl XN133 (fun wc xc Qc hg hv => ok_dividesB  hv) hv) XF81 rfl XN81 rfl rfl ?_; rintro _ _ w70 ⟨r71, rfl, rfl, hv⟩ hGw70 hS; have hS := hS.n0; refine WL.not rfl rfl <| WL.assign rfl rfl <| WL.done <| W.ret <| ⟨_, rfl, Fin.nil ?_⟩
 exact ⟨_, hS.ext, (hS.pick [] rfl).rows, News.of (hS.pick [] rfl).rows rfl, ⟨(!r71), rfl, rfl, hv⟩⟩
def V_isIrreducible (Pf : Int) (Mf : Int) (mf : List Int) (Q : Bool → Prop) : Prop :=
  V_clone mf (fun x14 => (((x14.length : Nat) + (1 : Nat) : Int) * 8 ≤ 140737488355328) ∧ (∃ (I36 : Int → Int → Prop) (μ37 : Int → Int → Nat), I36 (1 : Int) Pf ∧ ∀ (z34 : Int) (z35 : Int), (I36 z34 z35 → ((I64 ((2 : Int) * z34)) ∧ (((((2 : Int) * z34) ≤ Mf) → (∃ (I44 : Int → Prop) (μ45 : Int → Nat), I44 (0 : Int) ∧ ∀ (z43 : Int), (I44 z43 → (((z43 < z35) → (∃ (x55 : List Int), V_digits Pf z34 z43 (fun q => q = x55) ∧ (∃ (r65 : Bool), V_divides Pf x55 (x14 ++ ([(1 : Int)] : List Int)) (fun q => q = r65) ∧ (((r65 = true) → Q false) ∧ (r65 = false → ((I64 (z43 + (1 : Int))) ∧ (I44 (z43 + (1 : Int)) ∧ μ45 (z43 + (1 : Int)) < μ45 z43))))))) ∧ (¬ (z43 < z35) → ((I64 (z34 + (1 : Int))) ∧ ((I64 (z35 * Pf)) ∧ (I36 (z34 + (1 : Int)) (z35 * Pf) ∧ μ37 (z34 + (1 : Int)) (z35 * Pf) < μ37 z34 z35)))))))) ∧ (¬ (((2 : Int) * z34) ≤ Mf) → Q true))))))
theorem ok_isIrreducible {w : World} {Q : Bool → Prop} {Pf : Int} {Mf : Int} {mf : List Int} {Bf : Nat} {Af : Option Addr} {nf kf : Nat} (hf : Rd Bf w 1 Af nf kf (is mf)) (hv : V_isIrreducible Pf Mf mf Q) :
   Calls Try.prog 123 #[.agg #[.int .i64 Pf, .int .i64 Mf, .slice Af nf kf]] w fun e w' => ∃ v Qr, e = .returned v ∧ w.grownBy w' none ∧ Rows w.heap.size none w' Qr ∧ News w.heap.size Qr ∧ ∃ (r0 : Bool), v = .bool r0 ∧ Qr = [] ∧ Q r0 := by
 have hnf := hf.ilen; subst hnf; refine calls_swap <| calls_of_W (vs := [.agg #[.int .i64 Pf, .int .i64 Mf, .slice Af mf.length kf]]) [2] XF123 rfl rfl rfl rfl ?_; have hS := St.start w; unfold V_isIrreducible at hv; refine W.seq <| W.region <| SL.box (z := 3) (cs := [.int .i64 Pf, .int .i64 Mf, .slice Af mf.length kf]) hS rfl rfl rfl rfl ?_; intro g11 w12 hS; refine WL.assign rfl rfl <| WL.done <| W.seq <| W.region <| WL.fieldA (off := 2) XA24_2 rfl rfl <| WL.load XU22 rfl rfl (Own.vcells (hS.own (i := 0) rfl) 2 _ rfl) rfl <| SL.call hS (ok_clone (hS.ro hf) hv) XF91 rfl XN91 rfl rfl ?_; rintro _ _ w13 ⟨x14, A15, k16, rfl, rfl, hv⟩ hGw13 hS; have hS := hS.n1; refine SL.lit1 (vs := is ([(1 : Int)] : List Int)) hS XU22 XE3 rfl rfl rfl rfl (is_one _) rfl ?_; intro A18 w19 hS; obtain ⟨o21, hv⟩ := hv; refine SL.append (cs := is x14) (cs' := is ([(1 : Int)] : List Int)) 1 ((x14 ++ ([(1 : Int)] : List Int)).length) (is (x14 ++ ([(1 : Int)] : List Int))) hS rfl XU22 XE3 (hS.rd (i := 0) rfl) (is_one _) rfl rfl (apk o21).1 (apk o21).2 (is_ap (hS.rd (i := 1) rfl) (hS.rd (i := 0) rfl)) (is_append _ _) rfl ?_; intro A22 k23 w24 hS; refine WL.assign rfl rfl <| WL.done <| W.seq <| W.seq <| W.drawV 4 [⟨[], [1], true⟩, ⟨[0], [], false⟩, ⟨[], [], true⟩, ⟨[1], [], true⟩] [[(1, .pointer (some ⟨g11, 0, none⟩))], [], [], []] [(12, .pointer (some ⟨g11, 0, none⟩)), (13, .int .i64 Pf), (4, .int .i64 (1 : Int)), (5, .int .i64 Pf)] Try.mixed (by kernel_rfl) rfl rfl ?_ ?_
 · refine ⟨⟨rfl, ⟨rfl, trivial⟩, fun _ _ _ => WL.fieldA (off := 0) XA24_0 rfl rfl <| WL.done ⟨rfl, rfl⟩⟩, ⟨rfl, trivial, fun _ hE _ => have hS := hS.grow (hE rfl); WL.load XU3 rfl rfl (Own.vcells (hS.own (i := 2) rfl) 0 _ rfl) rfl <| WL.done ⟨rfl, ext_refl _⟩⟩, ⟨rfl, trivial, fun _ _ _ => WL.assign rfl rfl <| WL.done ⟨rfl, rfl⟩⟩, ⟨rfl, trivial, fun _ _ _ => WL.assign rfl rfl <| WL.done ⟨rfl, rfl⟩⟩, trivial⟩
 intro w29 hT; have hS := hS.grow hT; refine WA.done (by decide +kernel) <| W.block ?_; obtain ⟨I36, μ37, hv, hk83⟩ := hv; refine W.loop (σ := Int × Int) (fun q w1 => match q with | (z34, z35) => I36 z34 z35 ∧ St TT w none w1 [.row 3 1 A18 1 1 (is ([(1 : Int)] : List Int)), .row 3 1 A22 ((x14 ++ ([(1 : Int)] : List Int)).length) k23 (is (x14 ++ ([(1 : Int)] : List Int))), .row 24 3 (some ⟨g11, 0, none⟩) 1 1 [.int .i64 Pf, .int .i64 Mf, .slice Af mf.length kf]]) (fun q => match q with | (z34, z35) => [(1, .pointer (some ⟨g11, 0, none⟩)), (2, .bool false), (3, .slice A22 ((x14 ++ ([(1 : Int)] : List Int)).length) k23), (4, .int .i64 z34), (5, .int .i64 z35)]) (fun q => match q with | (z34, z35) => μ37 z34 z35) ((1 : Int), Pf) ⟨hv, hS⟩ ⟨rfl, rfl, rfl, rfl, rfl, trivial⟩ ?_; rintro ⟨z34, z35⟩ w38 ⟨hv, hS⟩; have hv := hk83 z34 z35 hv; refine W.seq <| W.seq <| W.region <| WL.move rfl rfl ?_; obtain ⟨o39, hv⟩ := hv; refine WL.mul (r := ((2 : Int) * z34)) rfl rfl (wr o39) rfl <| WL.fieldA (off := 1) XA24_1 rfl rfl <| WL.load XU3 rfl rfl (Own.vcells (hS.own (i := 2) rfl) 1 _ rfl) rfl <| WL.leqD rfl rfl rfl <| WL.done <| W.cond2 rfl (fun c40 => ?_) (fun c40 => ?_)
 ·have hv := hv.1 (of_decide_eq_true c40); refine W.skip <| W.seq <| W.block <| W.seq <| W.region <| WL.move rfl rfl <| WL.move rfl rfl <| WL.done <| W.block ?_; obtain ⟨I44, μ45, hv, hk82⟩ := hv; refine W.loop (σ := Int) (fun z43 w1 => I44 z43 ∧ St TT w none w1 [.row 3 1 A18 1 1 (is ([(1 : Int)] : List Int)), .row 3 1 A22 ((x14 ++ ([(1 : Int)] : List Int)).length) k23 (is (x14 ++ ([(1 : Int)] : List Int))), .row 24 3 (some ⟨g11, 0, none⟩) 1 1 [.int .i64 Pf, .int .i64 Mf, .slice Af mf.length kf]]) (fun z43 => [(1, .pointer (some ⟨g11, 0, none⟩)), (2, .bool false), (3, .slice A22 ((x14 ++ ([(1 : Int)] : List Int)).length) k23), (4, .int .i64 z34), (5, .int .i64 z35), (18, .bool (decide (((2 : Int) * z34) ≤ Mf))), (25, .int .i64 z35), (26, .int .i64 z43)]) (fun z43 => μ45 z43) (0 : Int) ⟨hv, hS⟩ ⟨rfl, rfl, rfl, rfl, rfl, rfl, rfl, rfl, trivial⟩ ?_; rintro z43 w46 ⟨hv, hS⟩; have hv := hk82 z43 hv; refine W.seq <| W.region <| WL.lssD rfl rfl rfl <| WL.done <| W.seq <| W.cond2 rfl (fun c47 => ?_) (fun c47 => ?_)
  ·have hv := hv.1 (of_decide_eq_true c47); refine W.skip <| W.seq <| W.block <| W.seq <| W.region <| WL.move rfl rfl <| WL.assign rfl rfl <| WL.done <| W.seq ?_; obtain ⟨x55, o62, hv⟩ := hv; obtain ⟨r65, o67, hv⟩ := hv; have hS0 := hS; refine W.drawX 9 (fun iA => [false, false, false, false, false, false, true, false, false].getD iA false) (fun _ => none) (fun _ v => v) [⟨[], [1], true⟩, ⟨[0], [], false⟩, ⟨[], [1], true⟩, ⟨[2], [], false⟩, ⟨[], [4], true⟩, ⟨[], [6], true⟩, ⟨[3, 4, 5], [], false⟩, ⟨[], [3], true⟩, ⟨[1, 6, 7], [], false⟩] [[(1, .pointer (some ⟨g11, 0, none⟩))], [], [(1, .pointer (some ⟨g11, 0, none⟩))], [], [(4, .int .i64 z34)], [(6, .int .i64 z43)], [], [(3, .slice A22 ((x14 ++ ([(1 : Int)] : List Int)).length) k23)], []] (fun iQ => [fun v _ => v = .pointer (some ⟨g11, 0, none⟩), fun v _ => v = .int .i64 Pf, fun v _ => v = .pointer (some ⟨g11, 0, none⟩), fun v _ => v = .int .i64 Pf, fun v _ => v = .int .i64 z34, fun v _ => v = .int .i64 z43, fun v wQ => ∃ A56_6 k57_6, v = .slice A56_6 x55.length k57_6 ∧ Own 0 wQ 3 1 A56_6 x55.length k57_6 (is x55) ∧ (∀ g, bl A56_6 = some g → w46.heap.size ≤ g), fun v _ => v = .slice A22 ((x14 ++ ([(1 : Int)] : List Int)).length) k23, fun v _ => v = .bool r65].getD iQ (fun _ _ => True)) (fun _ => vbD) Try.mixed (by kernel_rfl) ?_ (fun _ _ _ _ _ _ _ h => h) (by kernel_rfl) ?_ ?_
   · refine Vs_monoT _ ?_; intro VQ hVQ vQ wQ1 wQ2 hQ1 hQ2; simp only [List.mem_cons, List.not_mem_nil, or_false] at hVQ; rcases hVQ with rfl | rfl | rfl | rfl | rfl | rfl | rfl | rfl | rfl
     any_goals exact hQ1
     obtain ⟨A56_6, k57_6, hQe, hO60_6, hN61_6⟩ := hQ1; exact ⟨A56_6, k57_6, hQe, hO60_6.ext hQ2, hN61_6⟩
   · refine ⟨⟨rfl, ⟨rfl, trivial⟩, ?_⟩, ⟨rfl, trivial, ?_⟩, ⟨rfl, ⟨rfl, trivial⟩, ?_⟩, ⟨rfl, trivial, ?_⟩, ⟨rfl, ⟨rfl, trivial⟩, ?_⟩, ⟨rfl, ⟨rfl, trivial⟩, ?_⟩, ⟨rfl, trivial, ?_⟩, ⟨rfl, ⟨rfl, trivial⟩, ?_⟩, ⟨rfl, trivial, ?_⟩, trivial⟩
     ·intro w48 hE; intro RR; refine WL.fieldA (off := 0) XA24_0 rfl rfl ?_; exact WL.done ⟨_, rfl, dnq rfl rfl rfl rfl⟩
     ·intro w49 hE; have hE := hE rfl; have hS := hS.grow hE; rintro _ rfl; intro RR; refine WL.load XU3 rfl rfl (Own.vcells (hS.own (i := 2) rfl) 0 _ rfl) rfl ?_; exact WL.done ⟨_, rfl, dnq (ext_refl _) rfl rfl rfl⟩
     ·intro w50 hE; intro RR; refine WL.fieldA (off := 0) XA24_0 rfl rfl ?_; exact WL.done ⟨_, rfl, dnq rfl rfl rfl rfl⟩
     ·intro w51 hE; have hE := hE rfl; have hS := hS.grow hE; rintro _ rfl; intro RR; refine WL.load XU3 rfl rfl (Own.vcells (hS.own (i := 2) rfl) 0 _ rfl) rfl ?_; exact WL.done ⟨_, rfl, dnq (ext_refl _) rfl rfl rfl⟩
     ·intro w52 hE; intro RR; refine WL.move rfl rfl ?_; exact WL.done ⟨_, rfl, dnq rfl rfl rfl rfl⟩
     ·intro w53 hE; intro RR; refine WL.move rfl rfl ?_; exact WL.done ⟨_, rfl, dnq rfl rfl rfl rfl⟩
     ·intro w54 hE; have hE := hE rfl; have hS := hS.grow hE; rintro _ rfl; rintro _ rfl; rintro _ rfl; intro RR; refine WL.call XF129 rfl XN129 rfl rfl (calls_un (ok_digits  o62)) ?_; rintro _ w59 ⟨_, hGw59, hRww59, hNww59, x55q, A56, k57, rfl, rfl, he⟩; subst he; have hO60 := (hRww59.get (i := 0) rfl).1; have hN61 : ∀ g, bl A56 = some g → _ ≤ g := fun g hg => Nat.le_trans hE.size (hNww59.1 g hg); exact WL.done ⟨_, rfl, hGw59, ⟨A56, k57, rfl, hO60, hN61⟩, (fun _ => fun g hg => ⟨hNww59.1 g hg, (hO60.bl_ge g hg).2⟩), (fun j h => by cases h)⟩
     ·intro w63 hE; intro RR; refine WL.move rfl rfl ?_; exact WL.done ⟨_, rfl, dnq rfl rfl rfl rfl⟩
     intro w64 hE; have hE := hE rfl; have hS := hS.grow hE; rintro _ rfl; rintro _ ⟨A56_6, k57_6, rfl, hO60_6, hN61_6⟩; rintro _ rfl; intro RR; refine WL.call XF128 rfl XN128 rfl rfl (calls_un (ok_divides hO60_6.rd (hS.rd (i := 1) rfl) o67)) ?_; rintro _ w66 ⟨_, hGw66, hRww66, hNww66, r65q, rfl, rfl, he⟩; subst he; exact WL.done ⟨_, rfl, dnq hGw66 rfl rfl rfl⟩
   intro vals w68 hT hVs hAp hCp; have hS := hS.grow hT; have hv0 : vals 0 = _ := hVs 0 (by decide); have hv1 : vals 1 = _ := hVs 1 (by decide); have hv2 : vals 2 = _ := hVs 2 (by decide); have hv3 : vals 3 = _ := hVs 3 (by decide); have hv4 : vals 4 = _ := hVs 4 (by decide); have hv5 : vals 5 = _ := hVs 5 (by decide); obtain ⟨A56_6, k57_6, hv6, hO60_6, hN61_6⟩ := hVs 6 (by decide); have hv7 : vals 7 = _ := hVs 7 (by decide); have hv8 : vals 8 = _ := hVs 8 (by decide); show WA _ _ _ _ _ _ _ _ ([(29, vals 0), (30, vals 1), (31, vals 2), (32, vals 3), (33, vals 4), (34, vals 5), (35, vals 6), (36, vals 7), (37, vals 8)] ++ _) _; rw [hv0, hv1, hv2, hv3, hv4, hv5, hv6, hv7, hv8]; refine WA.done (by decide +kernel) <| W.cond2 rfl (fun c69 => ?_) (fun c69 => ?_)
   ·have hv := hv.1 (c69); refine W.seq <| W.region <| WL.assign rfl rfl <| WL.done <| W.ret <| ⟨_, rfl, Fin.nil ?_⟩
    exact ⟨_, hS.ext, (hS.pick [] rfl).rows, News.of (hS.pick [] rfl).rows rfl, ⟨false, rfl, rfl, hv⟩⟩
   have hv := hv.2 (c69); refine W.skip <| W.region ?_; obtain ⟨o70, hv⟩ := hv; refine WL.add (r := (z43 + (1 : Int))) rfl rfl (wr o70) rfl <| WL.move rfl rfl <| WL.done ?_; exact ⟨(z43 + (1 : Int)), ⟨rfl, rfl, rfl, rfl, rfl, rfl, rfl, rfl, trivial⟩, hv.2, rfl, hv.1, hS⟩
  have hv := hv.2 (of_decide_eq_false c47); refine W.exit ?_; obtain ⟨o73, hv⟩ := hv; obtain ⟨o78, hv⟩ := hv; refine W.drawV 8 [⟨[], [4], true⟩, ⟨[0], [], true⟩, ⟨[], [5], true⟩, ⟨[], [1], true⟩, ⟨[3], [], false⟩, ⟨[2, 4], [], true⟩, ⟨[1], [], true⟩, ⟨[5], [], true⟩] [[(4, .int .i64 z34)], [], [(5, .int .i64 z35)], [(1, .pointer (some ⟨g11, 0, none⟩))], [], [], [], []] [(19, .int .i64 z34), (20, .int .i64 (z34 + (1 : Int))), (21, .int .i64 z35), (22, .pointer (some ⟨g11, 0, none⟩)), (23, .int .i64 Pf), (24, .int .i64 (z35 * Pf)), (4, .int .i64 (z34 + (1 : Int))), (5, .int .i64 (z35 * Pf))] Try.mixed (by kernel_rfl) rfl rfl ?_ ?_
  · refine ⟨⟨rfl, ⟨rfl, trivial⟩, fun _ _ _ => WL.move rfl rfl <| WL.done ⟨rfl, rfl⟩⟩, ⟨rfl, trivial, fun _ _ _ => WL.add (r := (z34 + (1 : Int))) rfl rfl (wr o73) rfl <| WL.done ⟨rfl, rfl⟩⟩, ⟨rfl, ⟨rfl, trivial⟩, fun _ _ _ => WL.move rfl rfl <| WL.done ⟨rfl, rfl⟩⟩, ⟨rfl, ⟨rfl, trivial⟩, fun _ _ _ => WL.fieldA (off := 0) XA24_0 rfl rfl <| WL.done ⟨rfl, rfl⟩⟩, ⟨rfl, trivial, fun _ hE _ => have hS := hS.grow (hE rfl); WL.load XU3 rfl rfl (Own.vcells (hS.own (i := 2) rfl) 0 _ rfl) rfl <| WL.done ⟨rfl, ext_refl _⟩⟩, ⟨rfl, trivial, fun _ _ _ => WL.mul (r := (z35 * Pf)) rfl rfl (wr o78) rfl <| WL.done ⟨rfl, rfl⟩⟩, ⟨rfl, trivial, fun _ _ _ => WL.assign rfl rfl <| WL.done ⟨rfl, rfl⟩⟩, ⟨rfl, trivial, fun _ _ _ => WL.assign rfl rfl <| WL.done ⟨rfl, rfl⟩⟩, trivial⟩
  intro w81 hT; have hS := hS.grow hT; refine WA.done (by decide +kernel) ?_; exact ⟨((z34 + (1 : Int)), (z35 * Pf)), ⟨rfl, rfl, rfl, rfl, rfl, trivial⟩, hv.2, rfl, hv.1, hS⟩
 have hv := hv.2 (of_decide_eq_false c40); refine W.exit <| W.seq <| W.region <| WL.assign rfl rfl <| WL.done <| W.ret <| ⟨_, rfl, Fin.nil ?_⟩
 exact ⟨_, hS.ext, (hS.pick [] rfl).rows, News.of (hS.pick [] rfl).rows rfl, ⟨true, rfl, rfl, hv⟩⟩
def V_check (Pf : Int) (Mf : Int) (mf : List Int) (Q : Int → Prop) : Prop :=
  (((256 : Int) < Pf) → (Q (1 : Int))) ∧ (¬ ((256 : Int) < Pf) → (V_isPrime Pf (fun r15 => (((!r15) = true) → (Q (1 : Int))) ∧ ((!r15) = false → (((Mf < (1 : Int)) → (Q (1 : Int))) ∧ (¬ (Mf < (1 : Int)) → (V_order Pf Mf mf (fun r19 => (((256 : Int) < r19) → (Q (1 : Int))) ∧ (¬ ((256 : Int) < r19) → (((Mf = (1 : Int)) → (V_okIf (decide (((mf.length : Nat) : Int) = (0 : Int))) (fun r23 => Q r23))) ∧ (¬ (Mf = (1 : Int)) → (((((mf.length : Nat) : Int) ≠ Mf) → (Q (1 : Int))) ∧ (¬ (((mf.length : Nat) : Int) ≠ Mf) → (V_contains mf (fun xc Qc => V_checkB xc Pf Mf mf Qc) (fun r26 => ((r26 = true) → (Q (1 : Int))) ∧ (r26 = false → (V_isIrreducible Pf Mf mf (fun r29 => V_okIf r29 (fun r31 => Q r31)))))))))))))))))))
theorem ok_check {w : World} {Q : Int → Prop} {Pf : Int} {Mf : Int} {mf : List Int} {Bf : Nat} {Af : Option Addr} {nf kf : Nat} (hf : Rd Bf w 1 Af nf kf (is mf)) (hv : V_check Pf Mf mf Q) :
   Calls Try.prog 111 #[.agg #[.int .i64 Pf, .int .i64 Mf, .slice Af nf kf]] w fun e w' => ∃ v Qr, e = .returned v ∧ w.grownBy w' none ∧ Rows w.heap.size none w' Qr ∧ News w.heap.size Qr ∧ ∃ (r0 : Int), v = .int .i64 r0 ∧ Qr = [] ∧ Q r0 := by
 have hnf := hf.ilen; subst hnf; refine calls_swap <| calls_of_W (vs := [.agg #[.int .i64 Pf, .int .i64 Mf, .slice Af mf.length kf]]) [2] XF111 rfl rfl rfl rfl ?_; have hS := St.start w; unfold V_check at hv; refine W.seq <| W.region <| SL.box (z := 3) (cs := [.int .i64 Pf, .int .i64 Mf, .slice Af mf.length kf]) hS rfl rfl rfl rfl ?_; intro g11 w12 hS; refine WL.assign rfl rfl <| WL.done <| W.seq <| W.seq <| W.region <| WL.fieldA (off := 0) XA24_0 rfl rfl <| WL.load XU3 rfl rfl (Own.vcells (hS.own (i := 0) rfl) 0 _ rfl) rfl <| WL.gtrD rfl rfl rfl <| WL.move rfl rfl ?_; by_cases g13 : (256 : Int) < Pf
 ·have hv := hv.1 g13; rw [decide_eq_true g13]; refine WL.pass rfl rfl rfl <| WL.pass rfl rfl rfl <| WL.pass rfl rfl rfl <| WL.pass rfl rfl rfl <| WL.pick rfl rfl rfl <| WL.move rfl rfl <| WL.pass rfl rfl rfl <| WL.pass rfl rfl rfl <| WL.pass rfl rfl rfl <| WL.pick rfl rfl rfl <| WL.move rfl rfl <| WL.pass rfl rfl rfl <| WL.pass rfl rfl rfl <| WL.pass rfl rfl rfl <| WL.pick rfl rfl rfl <| WL.done <| W.condT rfl <| W.seq <| W.region <| WL.assign rfl rfl <| WL.done <| W.ret <| ⟨_, rfl, Fin.nil ?_⟩
  exact ⟨_, hS.ext, (hS.pick [] rfl).rows, News.of (hS.pick [] rfl).rows rfl, ⟨(1 : Int), rfl, rfl, hv⟩⟩
 have hv := hv.2 g13; rw [decide_eq_false g13]; refine WL.take rfl <| WL.fieldA (off := 0) XA24_0 rfl rfl <| WL.take rfl <| WL.load XU3 rfl rfl (Own.vcells (hS.own (i := 0) rfl) 0 _ rfl) rfl <| WL.take rfl <| SL.call hS (ok_isPrime  hv) XF120 rfl XN120 rfl rfl ?_; rintro _ _ w14 ⟨r15, rfl, rfl, hv⟩ hGw14 hS; have hS := hS.n0; refine WL.take rfl <| WL.not rfl rfl <| WL.pick rfl rfl rfl <| WL.move rfl rfl ?_; rcases g16 : (!r15) with _ | _
 ·have hv := hv.2 g16; refine WL.take rfl <| WL.fieldA (off := 1) XA24_1 rfl rfl <| WL.take rfl <| WL.load XU3 rfl rfl (Own.vcells (hS.own (i := 0) rfl) 1 _ rfl) rfl <| WL.take rfl <| WL.lssD rfl rfl rfl <| WL.pick rfl rfl rfl <| WL.move rfl rfl ?_; by_cases g17 : Mf < (1 : Int)
  ·have hv := hv.1 g17; rw [decide_eq_true g17]; refine WL.pass rfl rfl rfl <| WL.pass rfl rfl rfl <| WL.pass rfl rfl rfl <| WL.pick rfl rfl rfl <| WL.done <| W.condT rfl <| W.seq <| W.region <| WL.assign rfl rfl <| WL.done <| W.ret <| ⟨_, rfl, Fin.nil ?_⟩
   exact ⟨_, hS.ext, (hS.pick [] rfl).rows, News.of (hS.pick [] rfl).rows rfl, ⟨(1 : Int), rfl, rfl, hv⟩⟩
  have hv := hv.2 g17; rw [decide_eq_false g17]; refine WL.take rfl <| WL.loadV (cs := [.int .i64 Pf, .int .i64 Mf, .slice Af mf.length kf]) XE24 XG24 rfl rfl (Own.vcells (hS.own (i := 0) rfl)) rfl <| WL.take rfl <| SL.call hS (ok_order (hS.ro hf) hv) XF113 rfl XN113 rfl rfl ?_; rintro _ _ w18 ⟨r19, rfl, rfl, hv⟩ hGw18 hS; have hS := hS.n0; refine WL.take rfl <| WL.gtrD rfl rfl rfl <| WL.pick rfl rfl rfl <| WL.done <| W.cond2 rfl (fun c20 => ?_) (fun c20 => ?_)
  ·have hv := hv.1 (of_decide_eq_true c20); refine W.seq <| W.region <| WL.assign rfl rfl <| WL.done <| W.ret <| ⟨_, rfl, Fin.nil ?_⟩
   exact ⟨_, hS.ext, (hS.pick [] rfl).rows, News.of (hS.pick [] rfl).rows rfl, ⟨(1 : Int), rfl, rfl, hv⟩⟩
  have hv := hv.2 (of_decide_eq_false c20); refine W.skip <| W.seq <| W.seq <| W.region <| WL.fieldA (off := 1) XA24_1 rfl rfl <| WL.load XU3 rfl rfl (Own.vcells (hS.own (i := 0) rfl) 1 _ rfl) rfl <| WL.eqlD rfl rfl rfl <| WL.done <| W.cond2 rfl (fun c21 => ?_) (fun c21 => ?_)
  ·have hv := hv.1 (of_decide_eq_true c21); refine W.seq <| W.region <| WL.fieldA (off := 2) XA24_2 rfl rfl <| WL.load XU22 rfl rfl (Own.vcells (hS.own (i := 0) rfl) 2 _ rfl) rfl <| WL.len XU22 rfl rfl <| WL.eqlD rfl rfl rfl <| SL.call hS (ok_okIf  hv) XF121 rfl XN121 rfl rfl ?_; rintro _ _ w22 ⟨r23, rfl, rfl, hv⟩ hGw22 hS; have hS := hS.n0; refine WL.assign rfl rfl <| WL.done <| W.ret <| ⟨_, rfl, Fin.nil ?_⟩
   exact ⟨_, hS.ext, (hS.pick [] rfl).rows, News.of (hS.pick [] rfl).rows rfl, ⟨r23, rfl, rfl, hv⟩⟩
  have hv := hv.2 (of_decide_eq_false c21); refine W.skip <| W.seq <| W.seq <| W.region <| WL.fieldA (off := 2) XA24_2 rfl rfl <| WL.load XU22 rfl rfl (Own.vcells (hS.own (i := 0) rfl) 2 _ rfl) rfl <| WL.len XU22 rfl rfl <| WL.fieldA (off := 1) XA24_1 rfl rfl <| WL.load XU3 rfl rfl (Own.vcells (hS.own (i := 0) rfl) 1 _ rfl) rfl <| WL.neqD rfl rfl rfl <| WL.move rfl rfl ?_; by_cases g24 : ((mf.length : Nat) : Int) ≠ Mf
  ·have hv := hv.1 g24; rw [decide_eq_true g24]; refine WL.pass rfl rfl rfl <| WL.pass rfl rfl rfl <| WL.pass rfl rfl rfl <| WL.pass rfl rfl rfl <| WL.pick rfl rfl rfl <| WL.done <| W.condT rfl <| W.seq <| W.region <| WL.assign rfl rfl <| WL.done <| W.ret <| ⟨_, rfl, Fin.nil ?_⟩
   exact ⟨_, hS.ext, (hS.pick [] rfl).rows, News.of (hS.pick [] rfl).rows rfl, ⟨(1 : Int), rfl, rfl, hv⟩⟩
  have hv := hv.2 g24; rw [decide_eq_false g24]; refine WL.take rfl <| WL.fieldA (off := 2) XA24_2 rfl rfl <| WL.take rfl <| WL.load XU22 rfl rfl (Own.vcells (hS.own (i := 0) rfl) 2 _ rfl) rfl <| WL.take rfl <| WL.makeFunc (vs := [.pointer (some ⟨g11, 0, none⟩)]) rfl rfl <| WL.take rfl <| SL.call hS (ok_contains (hS.ro hf) XF122 rfl XN122 (fun wc xc Qc hg hv => ok_checkB ((hS.rd (i := 0) rfl).ext hg) ((hS.ro hf).ext hg) hv) hv) XF81 rfl XN81 rfl rfl ?_; rintro _ _ w25 ⟨r26, rfl, rfl, hv⟩ hGw25 hS; have hS := hS.n0; refine WL.pick rfl rfl rfl <| WL.done <| W.cond2 rfl (fun c27 => ?_) (fun c27 => ?_)
  ·have hv := hv.1 (c27); refine W.seq <| W.region <| WL.assign rfl rfl <| WL.done <| W.ret <| ⟨_, rfl, Fin.nil ?_⟩
   exact ⟨_, hS.ext, (hS.pick [] rfl).rows, News.of (hS.pick [] rfl).rows rfl, ⟨(1 : Int), rfl, rfl, hv⟩⟩
  have hv := hv.2 (c27); refine W.skip <| W.seq <| W.region <| WL.loadV (cs := [.int .i64 Pf, .int .i64 Mf, .slice Af mf.length kf]) XE24 XG24 rfl rfl (Own.vcells (hS.own (i := 0) rfl)) rfl <| SL.call hS (ok_isIrreducible (hS.ro hf) hv) XF123 rfl XN123 rfl rfl ?_; rintro _ _ w28 ⟨r29, rfl, rfl, hv⟩ hGw28 hS; have hS := hS.n0; refine SL.call hS (ok_okIf  hv) XF121 rfl XN121 rfl rfl ?_; rintro _ _ w30 ⟨r31, rfl, rfl, hv⟩ hGw30 hS; have hS := hS.n0; refine WL.assign rfl rfl <| WL.done <| W.ret <| ⟨_, rfl, Fin.nil ?_⟩
  exact ⟨_, hS.ext, (hS.pick [] rfl).rows, News.of (hS.pick [] rfl).rows rfl, ⟨r31, rfl, rfl, hv⟩⟩
 have hv := hv.1 g16; refine WL.pass rfl rfl rfl <| WL.pass rfl rfl rfl <| WL.pass rfl rfl rfl <| WL.pick rfl rfl rfl <| WL.move rfl rfl <| WL.pass rfl rfl rfl <| WL.pass rfl rfl rfl <| WL.pass rfl rfl rfl <| WL.pick rfl rfl rfl <| WL.done <| W.condT rfl <| W.seq <| W.region <| WL.assign rfl rfl <| WL.done <| W.ret <| ⟨_, rfl, Fin.nil ?_⟩
 exact ⟨_, hS.ext, (hS.pick [] rfl).rows, News.of (hS.pick [] rfl).rows rfl, ⟨(1 : Int), rfl, rfl, hv⟩⟩
def V_elements (Fg : GFv) (Q : Unit → Prop) : Prop :=
  Q ()
theorem ok_elements {w : World} {Q : Unit → Prop} {Fg : GFv} {ag : Addr} {Bg : Nat} (hgg : GFR Bg w ag Fg) (hv : V_elements Fg Q) :
  Calls Try.prog 124 #[.pointer (some ag)] w fun e w' => ∃ v Qr, e = .returned v ∧ w.grownBy w' none ∧ Rows w.heap.size none w' Qr ∧ News w.heap.size Qr ∧ ∃ g : Nat, v = .func (.func 130) #[] #[.pointer (some ⟨g, 0, none⟩)] ∧ Qr = [.row 69 1 (some ⟨g, 0, none⟩) 1 1 [.pointer (some ag)]] ∧ Q () := by
 have hgg_ := hgg; obtain ⟨Ag_mod, kg_mod, Ag_exp, kg_exp, Ag_log, kg_log, Ag_above, kg_above, hg_c, hg_mod, hg_exp, hg_log, hg_above⟩ := hgg_; refine calls_swap <| calls_of_W (vs := [.pointer (some ag)]) [2] XF124 rfl rfl rfl rfl ?_; have hS := St.start w; unfold V_elements at hv; refine W.seq <| W.region <| SL.box (z := 1) (cs := [.pointer (some ag)]) hS rfl rfl rfl rfl ?_; intro g11 w12 hS; refine WL.assign rfl rfl <| WL.done <| W.seq <| W.region <| WL.makeFunc (vs := [.pointer (some ⟨g11, 0, none⟩)]) rfl rfl <| WL.assign rfl rfl <| WL.done <| W.ret <| ⟨_, rfl, Fin.nil ?_⟩
 exact ⟨_, hS.ext, (hS.pick [0] rfl).rows, News.of (hS.pick [0] rfl).rows rfl, ⟨g11, rfl, rfl, hv⟩⟩
def V_backward (l : List Int) (Q : Unit → Prop) : Prop :=
  Q ()
theorem ok_backward {w : World} {Q : Unit → Prop} {l : List Int} {Bl : Nat} {Al : Option Addr} {nl kl : Nat} (hl : Rd Bl w 1 Al nl kl (is l)) (hv : V_backward l Q) :
  Calls Try.prog 135 #[.slice Al nl kl] w fun e w' => ∃ v Qr, e = .returned v ∧ w.grownBy w' none ∧ Rows w.heap.size none w' Qr ∧ News w.heap.size Qr ∧ ∃ g : Nat, v = .func (.func 136) #[] #[.pointer (some ⟨g, 0, none⟩)] ∧ Qr = [.row 22 1 (some ⟨g, 0, none⟩) 1 1 [.slice Al nl kl]] ∧ Q () := by
 have hnl := hl.ilen; subst hnl; refine calls_swap <| calls_of_W (vs := [.slice Al l.length kl]) [2] XF135 rfl rfl rfl rfl ?_; have hS := St.start w; unfold V_backward at hv; refine W.seq <| W.region <| SL.box (z := 1) (cs := [.slice Al l.length kl]) hS rfl rfl rfl rfl ?_; intro g11 w12 hS; refine WL.assign rfl rfl <| WL.done <| W.seq <| W.region <| WL.makeFunc (vs := [.pointer (some ⟨g11, 0, none⟩)]) rfl rfl <| WL.assign rfl rfl <| WL.done <| W.ret <| ⟨_, rfl, Fin.nil ?_⟩
 exact ⟨_, hS.ext, (hS.pick [0] rfl).rows, News.of (hS.pick [0] rfl).rows rfl, ⟨g11, rfl, rfl, hv⟩⟩
def V_fromDigits (p : Int) (l : List Int) (Q : Int → Prop) : Prop :=
  V_backward l (fun _ => ∃ (I22 : Nat → Int → Prop), I22 0 (0 : Int) ∧ (∀ i18 : Nat, i18 < l.length → ∀ (z21 : Int), I22 i18 z21 → ((I64 (z21 * p)) ∧ ((I64 ((z21 * p) + (gi l ((l.length - 1 - i18 : Nat) : Int)))) ∧ (I22 (i18 + 1) ((z21 * p) + (gi l ((l.length - 1 - i18 : Nat) : Int))))))) ∧ (∀ (z21 : Int), I22 l.length z21 → Q z21))
theorem ok_fromDigits {w : World} {Q : Int → Prop} {p : Int} {l : List Int} {Bl : Nat} {Al : Option Addr} {nl kl : Nat} (hl : Rd Bl w 1 Al nl kl (is l)) (hv : V_fromDigits p l Q) :
   Calls Try.prog 132 #[.int .i64 p, .slice Al nl kl] w fun e w' => ∃ v Qr, e = .returned v ∧ w.grownBy w' none ∧ Rows w.heap.size none w' Qr ∧ News w.heap.size Qr ∧ ∃ (r0 : Int), v = .int .i64 r0 ∧ Qr = [] ∧ Q r0 := by
 have hnl := hl.ilen; subst hnl; refine calls_swap <| calls_of_W (vs := [.int .i64 p, .slice Al l.length kl]) [4] XF132 rfl rfl rfl rfl ?_; have hS := St.start w; unfold V_fromDigits at hv; refine W.seq <| W.region <| SL.box (z := 1) (cs := [.int .i64 p]) hS rfl rfl rfl rfl ?_; intro g11 w12 hS; refine WL.assign rfl rfl <| WL.done <| W.seq <| W.region <| SL.alloc (cs := [.int .i64 (0 : Int)]) hS XE3 rfl rfl ?_; intro g13 w14 hS; refine SL.store (cs' := [.int .i64 (0 : Int)]) 0 0 hS rfl XE3 rfl rfl rfl (of_ble rfl) rfl ?_; intro w15 hS; refine WL.done <| W.seq <| W.seq <| W.region <| WL.move rfl rfl <| SL.call hS (ok_backward (hS.ro hl) hv) XF135 rfl XN135 rfl rfl ?_; rintro _ _ w16 ⟨g17, rfl, rfl, hv⟩ hGw16 hS; have hS := hS.n1; refine WL.done <| W.block ?_; obtain ⟨I22, hv, hk29, hd30⟩ := hv; refine SR.range (σ := Int) (fun i q => match q with | z21 => I22 i z21) (fun z21 => [.row 22 1 (some ⟨g17, 0, none⟩) 1 1 [.slice Al l.length kl], .row 3 1 (some ⟨g13, 0, none⟩) 1 1 [.int .i64 z21], .row 3 1 (some ⟨g11, 0, none⟩) 1 1 [.int .i64 p]]) (fun _ _ => False) (fun vs => [(2, .pointer (some ⟨g11, 0, none⟩)), (4, .int .i64 (0 : Int)), (5, .pointer (some ⟨g13, 0, none⟩)), (7, vs.getD 1 undef)]) (0 : Int) hS hv (fun q => by obtain z21 := q; exact trivial) rfl XF136 rfl XN136 (backward_seq (A := Al) (m := l.length) (c := kl) (Rd.m64 (hS.ro hl))) (Below.refl _ _) (fun _ _ _ h => by obtain ⟨_, h, _⟩ := h; rw [h]; rfl) (fun i x => bw_stay) (by decide) (fun _ q _ _ hS => by obtain z21 := q; exact ⟨Own.vcells (hS.own (i := 0) rfl) 0 _ rfl, _, _, (hS.ro hl)⟩) ?_ ?_ ?_ ?_
 ·intro lq vsq W1q hlq
  match vsq, hlq with
  | [a0, a1], _ =>
    refine W.region <| WL.assign rfl rfl <| WL.done ?_; exact ⟨rfl, rfl, ⟨rfl, rfl, rfl, rfl, trivial⟩⟩
 ·rintro lq i18 _ z21 w23 hi ⟨vb, rfl, hcell⟩ hI hS; have hvb : vb = (gi l ((l.length - 1 - i18 : Nat) : Int)) := bw_val (hS.ro hl) (by omega) hcell; subst hvb; have hv := hk29 i18 hi z21 hI; refine W.block <| W.region <| WL.load XU3 rfl rfl (Own.vcells (hS.own (i := 1) rfl) 0 _ rfl) rfl <| WL.load XU3 rfl rfl (Own.vcells (hS.own (i := 2) rfl) 0 _ rfl) rfl ?_; obtain ⟨o24, hv⟩ := hv; refine WL.mul (r := (z21 * p)) rfl rfl (wr o24) rfl <| WL.move rfl rfl ?_; obtain ⟨o25, hv⟩ := hv; refine WL.add (r := ((z21 * p) + (gi l ((l.length - 1 - i18 : Nat) : Int)))) rfl rfl (wr o25) rfl <| SL.store (cs' := [.int .i64 ((z21 * p) + (gi l ((l.length - 1 - i18 : Nat) : Int)))]) 1 0 hS rfl XE3 rfl rfl rfl (of_ble rfl) rfl ?_; intro w26 hS; refine WL.done ?_; exact ⟨((z21 * p) + (gi l ((l.length - 1 - i18 : Nat) : Int))), hv, hS⟩
 ·rintro D27 z21 w28 hv hD hS; have hv := hd30 z21 hv; refine W.seq <| W.region <| WL.load XU3 rfl rfl (Own.vcells (hS.own (i := 2) rfl) 0 _ rfl) rfl <| WL.assign rfl rfl <| WL.done <| W.ret ?_; have hS := hS.pick [0] rfl; obtain ⟨hDD27, hS⟩ := hS.taken trivial; refine ⟨_, rfl, Fin.cons hDD27 (Fin.nil ?_)⟩; exact ⟨_, hS.ext, (hS.pick [] rfl).rows, News.of (hS.pick [] rfl).rows rfl, ⟨z21, rfl, rfl, hv⟩⟩
 rintro _ e _ _ _ hv; exact hv.elim
end Go.Proofs.Ytiboieijhehjnaa
