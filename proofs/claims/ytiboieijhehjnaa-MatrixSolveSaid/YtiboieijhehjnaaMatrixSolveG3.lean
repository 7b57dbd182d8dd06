/- Contracts of functions of the program, and what they lean on: Facts, Ab, D1, It, Gf, D2, D3. -/
import Derived.Test.YtiboieijhehjnaaMatrixSolveG2
import Derived.Test.YtiboieijhehjnaaProg
set_option linter.unusedVariables false
namespace Go.Proofs.Ytiboieijhehjnaa
open Go.RowKit
theorem Try.mixed : Try.prog.follows .mixedOrders = true := by kernel_rfl
theorem Try.el3 : Elem Try.prog 3 1 8 (.int .i64 0) := .mk' (by kernel_rfl) rfl (by decide)
theorem Try.el4 : Elem Try.prog 4 1 1 (.bool false) := .mk' (by kernel_rfl) rfl (by decide)
theorem Try.el22 : Elem Try.prog 22 1 24 (.slice none 0 0) := .mk' (by kernel_rfl) rfl (by decide)
theorem Try.el121 : Elem Try.prog 121 1 24 (.slice none 0 0) := .mk' (by kernel_rfl) rfl (by decide)
theorem Try.el25 : Elem Try.prog 25 1 24 (.slice none 0 0) := .mk' (by kernel_rfl) rfl (by decide)
theorem Try.el27 : Elem Try.prog 27 2 32 (.agg #[.int .i64 0, .slice none 0 0]) := .mk' (by kernel_rfl) rfl (by decide)
theorem Try.fla27_0 : Jb8 Try.prog 27 0 0 = true := by kernel_rfl
theorem Try.fla27_1 : Jb8 Try.prog 27 1 1 = true := by kernel_rfl
theorem Try.bld27 : bldP Try.prog 27 [(0, 1), (1, 1)] #[.int .i64 0, .slice none 0 0] := ⟨by kernel_rfl, _, Try.underlying27, by kernel_rfl⟩
theorem Try.el24 : Elem Try.prog 24 3 40 (.agg #[.int .i64 0, .int .i64 0, .slice none 0 0]) := .mk' (by kernel_rfl) rfl (by decide)
theorem Try.agg24 : Jnb Try.prog 24 = true := by kernel_rfl
theorem Try.agg27 : Jnb Try.prog 27 = true := by kernel_rfl
theorem Try.fla24_0 : Jb8 Try.prog 24 0 0 = true := by kernel_rfl
theorem Try.fla24_1 : Jb8 Try.prog 24 1 1 = true := by kernel_rfl
theorem Try.fla24_2 : Jb8 Try.prog 24 2 2 = true := by kernel_rfl
theorem Try.bld24 : bldP Try.prog 24 [(0, 1), (1, 1), (2, 1)] #[.int .i64 0, .int .i64 0, .slice none 0 0] := ⟨by kernel_rfl, _, Try.underlying24, by kernel_rfl⟩
theorem Try.fla117_0 : Jb8 Try.prog 117 0 0 = true := by kernel_rfl
theorem Try.fla117_1 : Jb8 Try.prog 117 1 3 = true := by kernel_rfl
theorem Try.fla117_2 : Jb8 Try.prog 117 2 4 = true := by kernel_rfl
theorem Try.fla117_3 : Jb8 Try.prog 117 3 5 = true := by kernel_rfl
theorem Try.fla117_4 : Jb8 Try.prog 117 4 6 = true := by kernel_rfl
theorem Try.bld117 : bldP Try.prog 117 [(0, 3), (3, 1), (4, 1), (5, 1), (6, 1)] #[.int .i64 0, .int .i64 0, .slice none 0 0, .int .i64 0, .slice none 0 0, .slice none 0 0, .slice none 0 0] := ⟨by kernel_rfl, _, Try.underlying117, by kernel_rfl⟩
theorem Try.nm15 : (Try.f15.name == "runtime.NumGoroutine") = false := by kernel_rfl
theorem Try.nm16 : (Try.f16.name == "runtime.NumGoroutine") = false := by kernel_rfl
theorem Try.nm17 : (Try.f17.name == "runtime.NumGoroutine") = false := by kernel_rfl
theorem Try.nm19 : (Try.f19.name == "runtime.NumGoroutine") = false := by kernel_rfl
theorem Try.nm20 : (Try.f20.name == "runtime.NumGoroutine") = false := by kernel_rfl
theorem Try.nm21 : (Try.f21.name == "runtime.NumGoroutine") = false := by kernel_rfl
theorem Try.nm22 : (Try.f22.name == "runtime.NumGoroutine") = false := by kernel_rfl
theorem Try.nm23 : (Try.f23.name == "runtime.NumGoroutine") = false := by kernel_rfl
theorem Try.nm26 : (Try.f26.name == "runtime.NumGoroutine") = false := by kernel_rfl
theorem Try.nm27 : (Try.f27.name == "runtime.NumGoroutine") = false := by kernel_rfl
theorem Try.nm28 : (Try.f28.name == "runtime.NumGoroutine") = false := by kernel_rfl
theorem Try.nm32 : (Try.f32.name == "runtime.NumGoroutine") = false := by kernel_rfl
theorem Try.nm33 : (Try.f33.name == "runtime.NumGoroutine") = false := by kernel_rfl
theorem Try.nm36 : (Try.f36.name == "runtime.NumGoroutine") = false := by kernel_rfl
theorem Try.nm37 : (Try.f37.name == "runtime.NumGoroutine") = false := by kernel_rfl
theorem Try.nm38 : (Try.f38.name == "runtime.NumGoroutine") = false := by kernel_rfl
theorem Try.nm46 : (Try.f46.name == "runtime.NumGoroutine") = false := by kernel_rfl
theorem Try.nm49 : (Try.f49.name == "runtime.NumGoroutine") = false := by kernel_rfl
theorem Try.nm54 : (Try.f54.name == "runtime.NumGoroutine") = false := by kernel_rfl
theorem Try.nm56 : (Try.f56.name == "runtime.NumGoroutine") = false := by kernel_rfl
theorem Try.nm58 : (Try.f58.name == "runtime.NumGoroutine") = false := by kernel_rfl
theorem Try.nm59 : (Try.f59.name == "runtime.NumGoroutine") = false := by kernel_rfl
theorem Try.nm60 : (Try.f60.name == "runtime.NumGoroutine") = false := by kernel_rfl
theorem Try.nm61 : (Try.f61.name == "runtime.NumGoroutine") = false := by kernel_rfl
theorem Try.nm62 : (Try.f62.name == "runtime.NumGoroutine") = false := by kernel_rfl
theorem Try.nm64 : (Try.f64.name == "runtime.NumGoroutine") = false := by kernel_rfl
theorem Try.nm65 : (Try.f65.name == "runtime.NumGoroutine") = false := by kernel_rfl
theorem Try.nm66 : (Try.f66.name == "runtime.NumGoroutine") = false := by kernel_rfl
theorem Try.nm67 : (Try.f67.name == "runtime.NumGoroutine") = false := by kernel_rfl
theorem Try.nm68 : (Try.f68.name == "runtime.NumGoroutine") = false := by kernel_rfl
theorem Try.nm69 : (Try.f69.name == "runtime.NumGoroutine") = false := by kernel_rfl
theorem Try.nm70 : (Try.f70.name == "runtime.NumGoroutine") = false := by kernel_rfl
theorem Try.nm71 : (Try.f71.name == "runtime.NumGoroutine") = false := by kernel_rfl
theorem Try.nm72 : (Try.f72.name == "runtime.NumGoroutine") = false := by kernel_rfl
theorem Try.nm73 : (Try.f73.name == "runtime.NumGoroutine") = false := by kernel_rfl
theorem Try.nm75 : (Try.f75.name == "runtime.NumGoroutine") = false := by kernel_rfl
theorem Try.nm79 : (Try.f79.name == "runtime.NumGoroutine") = false := by kernel_rfl
theorem Try.nm80 : (Try.f80.name == "runtime.NumGoroutine") = false := by kernel_rfl
theorem Try.nm81 : (Try.f81.name == "runtime.NumGoroutine") = false := by kernel_rfl
theorem Try.nm86 : (Try.f86.name == "runtime.NumGoroutine") = false := by kernel_rfl
theorem Try.nm87 : (Try.f87.name == "runtime.NumGoroutine") = false := by kernel_rfl
theorem Try.nm88 : (Try.f88.name == "runtime.NumGoroutine") = false := by kernel_rfl
theorem Try.nm89 : (Try.f89.name == "runtime.NumGoroutine") = false := by kernel_rfl
theorem Try.nm90 : (Try.f90.name == "runtime.NumGoroutine") = false := by kernel_rfl
theorem Try.nm91 : (Try.f91.name == "runtime.NumGoroutine") = false := by kernel_rfl
theorem Try.nm92 : (Try.f92.name == "runtime.NumGoroutine") = false := by kernel_rfl
theorem Try.nm93 : (Try.f93.name == "runtime.NumGoroutine") = false := by kernel_rfl
theorem Try.nm94 : (Try.f94.name == "runtime.NumGoroutine") = false := by kernel_rfl
theorem Try.nm95 : (Try.f95.name == "runtime.NumGoroutine") = false := by kernel_rfl
theorem Try.nm96 : (Try.f96.name == "runtime.NumGoroutine") = false := by kernel_rfl
theorem Try.nm97 : (Try.f97.name == "runtime.NumGoroutine") = false := by kernel_rfl
theorem Try.nm98 : (Try.f98.name == "runtime.NumGoroutine") = false := by kernel_rfl
theorem Try.nm99 : (Try.f99.name == "runtime.NumGoroutine") = false := by kernel_rfl
theorem Try.nm100 : (Try.f100.name == "runtime.NumGoroutine") = false := by kernel_rfl
theorem Try.nm101 : (Try.f101.name == "runtime.NumGoroutine") = false := by kernel_rfl
theorem Try.nm102 : (Try.f102.name == "runtime.NumGoroutine") = false := by kernel_rfl
theorem Try.nm103 : (Try.f103.name == "runtime.NumGoroutine") = false := by kernel_rfl
theorem Try.nm104 : (Try.f104.name == "runtime.NumGoroutine") = false := by kernel_rfl
theorem Try.nm105 : (Try.f105.name == "runtime.NumGoroutine") = false := by kernel_rfl
theorem Try.nm107 : (Try.f107.name == "runtime.NumGoroutine") = false := by kernel_rfl
theorem Try.nm108 : (Try.f108.name == "runtime.NumGoroutine") = false := by kernel_rfl
theorem Try.nm109 : (Try.f109.name == "runtime.NumGoroutine") = false := by kernel_rfl
theorem Try.nm110 : (Try.f110.name == "runtime.NumGoroutine") = false := by kernel_rfl
theorem Try.nm111 : (Try.f111.name == "runtime.NumGoroutine") = false := by kernel_rfl
theorem Try.nm112 : (Try.f112.name == "runtime.NumGoroutine") = false := by kernel_rfl
theorem Try.nm113 : (Try.f113.name == "runtime.NumGoroutine") = false := by kernel_rfl
theorem Try.nm114 : (Try.f114.name == "runtime.NumGoroutine") = false := by kernel_rfl
theorem Try.nm115 : (Try.f115.name == "runtime.NumGoroutine") = false := by kernel_rfl
theorem Try.nm116 : (Try.f116.name == "runtime.NumGoroutine") = false := by kernel_rfl
theorem Try.nm117 : (Try.f117.name == "runtime.NumGoroutine") = false := by kernel_rfl
theorem Try.nm118 : (Try.f118.name == "runtime.NumGoroutine") = false := by kernel_rfl
theorem Try.nm119 : (Try.f119.name == "runtime.NumGoroutine") = false := by kernel_rfl
theorem Try.nm120 : (Try.f120.name == "runtime.NumGoroutine") = false := by kernel_rfl
theorem Try.nm121 : (Try.f121.name == "runtime.NumGoroutine") = false := by kernel_rfl
theorem Try.nm122 : (Try.f122.name == "runtime.NumGoroutine") = false := by kernel_rfl
theorem Try.nm123 : (Try.f123.name == "runtime.NumGoroutine") = false := by kernel_rfl
theorem Try.nm124 : (Try.f124.name == "runtime.NumGoroutine") = false := by kernel_rfl
theorem Try.nm125 : (Try.f125.name == "runtime.NumGoroutine") = false := by kernel_rfl
theorem Try.nm126 : (Try.f126.name == "runtime.NumGoroutine") = false := by kernel_rfl
theorem Try.nm127 : (Try.f127.name == "runtime.NumGoroutine") = false := by kernel_rfl
theorem Try.nm128 : (Try.f128.name == "runtime.NumGoroutine") = false := by kernel_rfl
theorem Try.nm129 : (Try.f129.name == "runtime.NumGoroutine") = false := by kernel_rfl
theorem Try.nm130 : (Try.f130.name == "runtime.NumGoroutine") = false := by kernel_rfl
theorem Try.nm131 : (Try.f131.name == "runtime.NumGoroutine") = false := by kernel_rfl
theorem Try.nm132 : (Try.f132.name == "runtime.NumGoroutine") = false := by kernel_rfl
theorem Try.nm133 : (Try.f133.name == "runtime.NumGoroutine") = false := by kernel_rfl
theorem Try.nm134 : (Try.f134.name == "runtime.NumGoroutine") = false := by kernel_rfl
theorem Try.nm135 : (Try.f135.name == "runtime.NumGoroutine") = false := by kernel_rfl
theorem Try.nm136 : (Try.f136.name == "runtime.NumGoroutine") = false := by kernel_rfl
end Go.Proofs.Ytiboieijhehjnaa
namespace Go.Proofs.Ytiboieijhehjnaa
open Go.RowKit
abbrev Jgm := Try.fla117_0
abbrev Zp := Try.fla117_1
abbrev Jdb := Try.fla117_2
abbrev Yn := Try.fla117_3
abbrev Jgl := Try.fla117_4
abbrev J5 := Try.fla24_0
abbrev Qk := Try.fla24_1
abbrev Yc := Try.fla24_2
abbrev JZ := Try.fla27_0
abbrev JR := Try.fla27_1
abbrev Jqj := Try.bld117
abbrev XB24 := Try.bld24
abbrev Jaa := Try.bld27
abbrev XE121 := Try.el121
abbrev Ju := Try.el22
abbrev J3 := Try.el24
abbrev Jgk := Try.el25
abbrev JF := Try.el27
abbrev XE3 := Try.el3
abbrev XE4 := Try.el4
abbrev Jlq := Try.func100
abbrev Jlp := Try.func101
abbrev XF102 := Try.func102
abbrev XF103 := Try.func103
abbrev XF104 := Try.func104
abbrev Jqi := Try.func105
abbrev XF107 := Try.func107
abbrev Jqh := Try.func108
abbrev XF109 := Try.func109
abbrev XF110 := Try.func110
abbrev XF111 := Try.func111
abbrev Jlo := Try.func112
abbrev Je5 := Try.func113
abbrev XF114 := Try.func114
abbrev XF115 := Try.func115
abbrev Jqg := Try.func116
abbrev Jln := Try.func117
abbrev XF118 := Try.func118
abbrev Jqf := Try.func119
abbrev XF120 := Try.func120
abbrev Jqe := Try.func121
abbrev XF122 := Try.func122
abbrev XF123 := Try.func123
abbrev XF124 := Try.func124
abbrev XF125 := Try.func125
abbrev Jqd := Try.func126
abbrev XF127 := Try.func127
abbrev XF128 := Try.func128
abbrev Jlm := Try.func129
abbrev XF130 := Try.func130
abbrev XF131 := Try.func131
abbrev XF132 := Try.func132
abbrev XF133 := Try.func133
abbrev XF134 := Try.func134
abbrev XF135 := Try.func135
abbrev XF136 := Try.func136
abbrev XF15 := Try.func15
abbrev XF16 := Try.func16
abbrev XF17 := Try.func17
abbrev XF19 := Try.func19
abbrev XF20 := Try.func20
abbrev Jnf := Try.func21
abbrev XF22 := Try.func22
abbrev XF23 := Try.func23
abbrev XF26 := Try.func26
abbrev XF27 := Try.func27
abbrev XF28 := Try.func28
abbrev XF32 := Try.func32
abbrev XF33 := Try.func33
abbrev XF36 := Try.func36
abbrev XF37 := Try.func37
abbrev XF38 := Try.func38
abbrev XF46 := Try.func46
abbrev XF49 := Try.func49
abbrev XF54 := Try.func54
abbrev XF56 := Try.func56
abbrev XF58 := Try.func58
abbrev XF59 := Try.func59
abbrev XF60 := Try.func60
abbrev Jj9 := Try.func61
abbrev XF62 := Try.func62
abbrev XF64 := Try.func64
abbrev XF65 := Try.func65
abbrev XF66 := Try.func66
abbrev XF67 := Try.func67
abbrev XF68 := Try.func68
abbrev XF69 := Try.func69
abbrev XF70 := Try.func70
abbrev XF71 := Try.func71
abbrev XF72 := Try.func72
abbrev XF73 := Try.func73
abbrev XF75 := Try.func75
abbrev XF79 := Try.func79
abbrev XF8 := Try.func8
abbrev XF80 := Try.func80
abbrev XF81 := Try.func81
abbrev Jne := Try.func86
abbrev XF87 := Try.func87
abbrev XF88 := Try.func88
abbrev XF89 := Try.func89
abbrev XF90 := Try.func90
abbrev XF91 := Try.func91
abbrev Jnd := Try.func92
abbrev XF93 := Try.func93
abbrev XF94 := Try.func94
abbrev XF95 := Try.func95
abbrev XF96 := Try.func96
abbrev XF97 := Try.func97
abbrev XF98 := Try.func98
abbrev XF99 := Try.func99
abbrev Qa := Try.agg24
abbrev Qb := Try.agg27
abbrev XN100 := Try.nm100
abbrev Jp7 := Try.nm101
abbrev XN102 := Try.nm102
abbrev XN103 := Try.nm103
abbrev XN104 := Try.nm104
abbrev XN105 := Try.nm105
abbrev XN107 := Try.nm107
abbrev XN108 := Try.nm108
abbrev XN109 := Try.nm109
abbrev XN110 := Try.nm110
abbrev XN111 := Try.nm111
abbrev Jp6 := Try.nm112
abbrev Jie := Try.nm113
abbrev XN114 := Try.nm114
abbrev XN115 := Try.nm115
abbrev XN116 := Try.nm116
abbrev Jp5 := Try.nm117
abbrev XN118 := Try.nm118
abbrev XN119 := Try.nm119
abbrev XN120 := Try.nm120
abbrev XN121 := Try.nm121
abbrev XN122 := Try.nm122
abbrev XN123 := Try.nm123
abbrev XN124 := Try.nm124
abbrev XN125 := Try.nm125
abbrev XN126 := Try.nm126
abbrev XN127 := Try.nm127
abbrev XN128 := Try.nm128
abbrev Jp4 := Try.nm129
abbrev XN130 := Try.nm130
abbrev XN131 := Try.nm131
abbrev XN132 := Try.nm132
abbrev XN133 := Try.nm133
abbrev XN134 := Try.nm134
abbrev XN135 := Try.nm135
abbrev XN136 := Try.nm136
abbrev XN15 := Try.nm15
abbrev XN16 := Try.nm16
abbrev XN17 := Try.nm17
abbrev XN19 := Try.nm19
abbrev XN20 := Try.nm20
abbrev XN21 := Try.nm21
abbrev XN22 := Try.nm22
abbrev XN23 := Try.nm23
abbrev XN26 := Try.nm26
abbrev XN27 := Try.nm27
abbrev XN28 := Try.nm28
abbrev XN32 := Try.nm32
abbrev XN33 := Try.nm33
abbrev XN36 := Try.nm36
abbrev XN37 := Try.nm37
abbrev XN38 := Try.nm38
abbrev XN46 := Try.nm46
abbrev XN49 := Try.nm49
abbrev XN54 := Try.nm54
abbrev XN56 := Try.nm56
abbrev XN58 := Try.nm58
abbrev XN59 := Try.nm59
abbrev XN60 := Try.nm60
abbrev Jnc := Try.nm61
abbrev XN62 := Try.nm62
abbrev XN64 := Try.nm64
abbrev XN65 := Try.nm65
abbrev XN66 := Try.nm66
abbrev XN67 := Try.nm67
abbrev XN68 := Try.nm68
abbrev XN69 := Try.nm69
abbrev XN70 := Try.nm70
abbrev XN71 := Try.nm71
abbrev XN72 := Try.nm72
abbrev XN73 := Try.nm73
abbrev XN75 := Try.nm75
abbrev XN79 := Try.nm79
abbrev XN80 := Try.nm80
abbrev XN81 := Try.nm81
abbrev XN86 := Try.nm86
abbrev XN87 := Try.nm87
abbrev XN88 := Try.nm88
abbrev XN89 := Try.nm89
abbrev XN90 := Try.nm90
abbrev XN91 := Try.nm91
abbrev XN92 := Try.nm92
abbrev XN93 := Try.nm93
abbrev XN94 := Try.nm94
abbrev XN95 := Try.nm95
abbrev XN96 := Try.nm96
abbrev XN97 := Try.nm97
abbrev XN98 := Try.nm98
abbrev XN99 := Try.nm99
abbrev XU109 := Try.underlying109
abbrev Jd7 := Try.underlying121
abbrev Jq := Try.underlying22
abbrev Jt := Try.underlying25
abbrev XU3 := Try.underlying3
abbrev XU4 := Try.underlying4
abbrev Jem := Try.underlying58
abbrev Jcx := Try.underlying69
end Go.Proofs.Ytiboieijhehjnaa
set_option linter.unusedSimpArgs false
set_option linter.unusedVariables false
set_option maxRecDepth 4000
set_option maxHeartbeats 4000000
namespace Go.Proofs.Ytiboieijhehjnaa
open Go.RowKit
def Jea (b : Bool) (Q : Int -> Prop) : Prop :=
  ((b = true) -> (Q (0 : Int))) /\ (b = false -> (Q (1 : Int)))
theorem Jk1 {w : World} {Q : Int -> Prop} {b : Bool}  (hv : Jea b Q) :
   Calls Try.prog 121 #[.bool b] w fun e w' => ∃ v Qr, e = .returned v /\ w.grownBy w' none /\ Rows w.heap.size none w' Qr /\ News w.heap.size Qr /\ ∃ (r0 : Int), v = .int .i64 r0 /\ Qr = [] /\ Q r0 := by
 refine Jo <| Jm (vs := [.bool b]) [2] Jqe rfl rfl rfl rfl ?_; have hS := Js w; unfold Jea at hv; refine Jg 9 <| Jl rfl (fun c11 => ?_) (fun c11 => ?_)
 .have hv := hv.1 (c11); refine Jg 4 <| W.ret <| ⟨_, rfl, Fin.nil ?_⟩
  exact ⟨_, hS.ext, (hS.pick [] rfl).rows, Jj (hS.pick [] rfl).rows rfl, ⟨(0 : Int), rfl, rfl, hv⟩⟩
 have hv := hv.2 (c11); refine Jn <| Jg 4 <| W.ret <| ⟨_, rfl, Fin.nil ?_⟩
 exact ⟨_, hS.ext, (hS.pick [] rfl).rows, Jj (hS.pick [] rfl).rows rfl, ⟨(1 : Int), rfl, rfl, hv⟩⟩
def Yg (x : Int) (Q : Int -> Prop) : Prop :=
  ∃ (I14 : Int -> Prop) (μ15 : Int -> Nat), I14 (2 : Int) /\ ∀ (z13 : Int), (I14 z13 -> ((I64 (z13 * z13)) /\ ((((z13 * z13) <= x) -> ((z13 ≠ 0) /\ ((((x.tmod z13) = (0 : Int)) -> Q z13) /\ (¬ ((x.tmod z13) = (0 : Int)) -> ((I64 (z13 + (1 : Int))) /\ (I14 (z13 + (1 : Int)) /\ μ15 (z13 + (1 : Int)) < μ15 z13)))))) /\ (¬ ((z13 * z13) <= x) -> Q x))))
theorem Jcs {w : World} {Q : Int -> Prop} {x : Int}  (hv : Yg x Q) :
   Calls Try.prog 127 #[.int .i64 x] w fun e w' => ∃ v Qr, e = .returned v /\ w.grownBy w' none /\ Rows w.heap.size none w' Qr /\ News w.heap.size Qr /\ ∃ (r0 : Int), v = .int .i64 r0 /\ Qr = [] /\ Q r0 := by
 refine Jo <| Jm (vs := [.int .i64 x]) [2] XF127 rfl rfl rfl rfl ?_; have hS := Js w; unfold Yg at hv; refine Jg 9 <| W.block ?_; obtain ⟨I14, μ15, hv, hk22⟩ := hv; refine JB (σ := Int) (fun z13 w1 => I14 z13 /\ St TT w none w1 []) (fun z13 => [(0, .int .i64 x), (2, .int .i64 0), (3, .int .i64 z13)]) (fun z13 => μ15 z13) (2 : Int) ⟨hv, hS⟩ ⟨rfl, rfl, rfl, trivial⟩ ?_; rintro z13 w16 ⟨hv, hS⟩; have hv := hk22 z13 hv; refine Jg 5 ?_; obtain ⟨o17, hv⟩ := hv; refine WL.mul (r := (z13 * z13)) rfl rfl (wr o17) rfl <| Jd 3 <| Jl rfl (fun c18 => ?_) (fun c18 => ?_)
 .have hv := hv.1 (of_decide_eq_true c18); refine Jn <| Jw <| W.block <| Jg 4 ?_; obtain ⟨o19, hv⟩ := hv; refine Yd (r := (x.tmod z13)) rfl rfl o19 rfl rfl <| Jd 2 <| Jl rfl (fun c20 => ?_) (fun c20 => ?_)
  .have hv := hv.1 (of_decide_eq_true c20); refine Jg 5 <| W.ret <| ⟨_, rfl, Fin.nil ?_⟩
   exact ⟨_, hS.ext, (hS.pick [] rfl).rows, Jj (hS.pick [] rfl).rows rfl, ⟨z13, rfl, rfl, hv⟩⟩
  have hv := hv.2 (of_decide_eq_false c20); refine Jn <| Jg 2 ?_; obtain ⟨o21, hv⟩ := hv; refine WL.add (r := (z13 + (1 : Int))) rfl rfl (wr o21) rfl <| Jd 2 ?_; exact ⟨(z13 + (1 : Int)), ⟨rfl, rfl, rfl, trivial⟩, hv.2, rfl, hv.1, hS⟩
 have hv := hv.2 (of_decide_eq_false c18); refine Jy <| Jg 5 <| W.ret <| ⟨_, rfl, Fin.nil ?_⟩
 exact ⟨_, hS.ext, (hS.pick [] rfl).rows, Jj (hS.pick [] rfl).rows rfl, ⟨x, rfl, rfl, hv⟩⟩
def Z4 (x : Int) (Q : Bool -> Prop) : Prop :=
  (((2 : Int) <= x) -> (Yg x (fun r13 => Q (decide (r13 = x))))) /\ (¬ ((2 : Int) <= x) -> Q false)
theorem Jjb {w : World} {Q : Bool -> Prop} {x : Int}  (hv : Z4 x Q) :
   Calls Try.prog 120 #[.int .i64 x] w fun e w' => ∃ v Qr, e = .returned v /\ w.grownBy w' none /\ Rows w.heap.size none w' Qr /\ News w.heap.size Qr /\ ∃ (r0 : Bool), v = .bool r0 /\ Qr = [] /\ Q r0 := by
 refine Jo <| Jm (vs := [.int .i64 x]) [2] XF120 rfl rfl rfl rfl ?_; have hS := Js w; unfold Z4 at hv; refine Jg 8 <| Je rfl rfl ?_; by_cases g11 : (2 : Int) <= x
 .have hv := hv.1 g11; rw [decide_eq_true g11]; refine Jd 3 <| SL.call hS (Jcs  hv) XF127 rfl XN127 rfl rfl ?_; rintro _ _ w12 ⟨r13, rfl, rfl, hv⟩ hGw12 hS; have hS := hS.n0; refine Jd 7 <| W.ret <| ⟨_, rfl, Fin.nil ?_⟩
  exact ⟨_, hS.ext, (hS.pick [] rfl).rows, Jj (hS.pick [] rfl).rows rfl, ⟨(decide (r13 = x)), rfl, rfl, hv⟩⟩
 have hv := hv.2 g11; rw [decide_eq_false g11]; refine Jd 7 <| W.ret <| ⟨_, rfl, Fin.nil ?_⟩
 exact ⟨_, hS.ext, (hS.pick [] rfl).rows, Jj (hS.pick [] rfl).rows rfl, ⟨false, rfl, rfl, hv⟩⟩
def Zt (Pf : Int) (Mf : Int) (mf : List Int) (Q : Int -> Prop) : Prop :=
  ∃ J14 : Int -> Prop, (∃ (I21 : Int -> Int -> Prop) (μ22 : Int -> Int -> Nat), I21 (1 : Int) (0 : Int) /\ ∀ (z19 : Int) (z20 : Int), (I21 z19 z20 -> (((z20 < Mf) -> (((z19 <= (256 : Int)) -> ((I64 (z19 * Pf)) /\ ((I64 (z20 + (1 : Int))) /\ (I21 (z19 * Pf) (z20 + (1 : Int)) /\ μ22 (z19 * Pf) (z20 + (1 : Int)) < μ22 z19 z20)))) /\ (¬ (z19 <= (256 : Int)) -> J14 z19))) /\ (¬ (z20 < Mf) -> J14 z19)))) /\ ∀ (z13 : Int), (J14 z13 -> Q z13)
theorem ZC {w : World} {Q : Int -> Prop} {Pf : Int} {Mf : Int} {mf : List Int} {Bf : Nat} {Af : Option Addr} {nf kf : Nat} (hf : Rd Bf w 1 Af nf kf (is mf)) (hv : Zt Pf Mf mf Q) :
   Calls Try.prog 113 #[.agg #[.int .i64 Pf, .int .i64 Mf, .slice Af nf kf]] w fun e w' => ∃ v Qr, e = .returned v /\ w.grownBy w' none /\ Rows w.heap.size none w' Qr /\ News w.heap.size Qr /\ ∃ (r0 : Int), v = .int .i64 r0 /\ Qr = [] /\ Q r0 := by
 have hnf := hf.ilen; subst hnf; refine Jo <| Jm (vs := [.agg #[.int .i64 Pf, .int .i64 Mf, .slice Af mf.length kf]]) [2] Je5 rfl rfl rfl rfl ?_; have hS := Js w; unfold Zt at hv; refine Jg 2 <| JD (z := 3) (cs := [.int .i64 Pf, .int .i64 Mf, .slice Af mf.length kf]) hS rfl rfl rfl rfl ?_; intro g11 w12 hS; refine Jd 2 <| Jg 9 ?_; obtain ⟨J14, hv, hk30⟩ := hv; refine Qn (σ := Int) (fun z13 w1 => J14 z13 /\ St TT w none w1 [.row 24 3 (some ⟨g11, 0, none⟩) 1 1 [.int .i64 Pf, .int .i64 Mf, .slice Af mf.length kf]]) (fun z13 => [(2, .int .i64 0), (3, .int .i64 z13)]) ?_ ?_
 .refine W.block ?_; obtain ⟨I21, μ22, hv, hk28⟩ := hv; refine JB (σ := Int × Int) (fun q w1 => match q with | (z19, z20) => I21 z19 z20 /\ St TT w none w1 [.row 24 3 (some ⟨g11, 0, none⟩) 1 1 [.int .i64 Pf, .int .i64 Mf, .slice Af mf.length kf]]) (fun q => match q with | (z19, z20) => [(1, .pointer (some ⟨g11, 0, none⟩)), (2, .int .i64 0), (3, .int .i64 z19), (4, .int .i64 z20)]) (fun q => match q with | (z19, z20) => μ22 z19 z20) ((1 : Int), (0 : Int)) ⟨hv, hS⟩ ⟨rfl, rfl, rfl, rfl, trivial⟩ ?_; rintro ⟨z19, z20⟩ w23 ⟨hv, hS⟩; have hv := hk28 z19 z20 hv; refine Jg 4 <| Jh (off := 1) Qk rfl rfl <| Jc XU3 rfl rfl (Jb (hS.own (i := 0) rfl) 1 _ rfl) rfl <| Yo rfl rfl rfl <| Je rfl rfl ?_; by_cases g24 : z20 < Mf
  .have hv := hv.1 g24; rw [decide_eq_true g24]; refine Jd 6 <| Jl rfl (fun c25 => ?_) (fun c25 => ?_)
   .have hv := hv.1 (of_decide_eq_true c25); refine Jn <| Jw <| W.block <| Jg 2 <| Jh (off := 0) J5 rfl rfl <| Jc XU3 rfl rfl (Jb (hS.own (i := 0) rfl) 0 _ rfl) rfl ?_; obtain ⟨o26, hv⟩ := hv; refine WL.mul (r := (z19 * Pf)) rfl rfl (wr o26) rfl <| Jd 2 <| Jg 2 ?_; obtain ⟨o27, hv⟩ := hv; refine WL.add (r := (z20 + (1 : Int))) rfl rfl (wr o27) rfl <| Jd 2 ?_; exact ⟨((z19 * Pf), (z20 + (1 : Int))), ⟨rfl, rfl, rfl, rfl, trivial⟩, hv.2, rfl, hv.1, hS⟩
   have hv := hv.2 (of_decide_eq_false c25); refine Jy ?_; exact ⟨z19, ⟨rfl, rfl, trivial⟩, rfl, hv, hS⟩
  have hv := hv.2 g24; rw [decide_eq_false g24]; refine Jd 4 <| Qw rfl <| Jy ?_; exact ⟨z19, ⟨rfl, rfl, trivial⟩, rfl, hv, hS⟩
 rintro z13 w29 ⟨hv, hS⟩; have hv := hk30 z13 hv; refine Jg 5 <| W.ret <| ⟨_, rfl, Fin.nil ?_⟩
 exact ⟨_, hS.ext, (hS.pick [] rfl).rows, Jj (hS.pick [] rfl).rows rfl, ⟨z13, rfl, rfl, hv⟩⟩
def Zd (p : Int) (n : Int) (x : Int) (Q : List Int -> Prop) : Prop :=
  (0 <= n /\ n * 8 <= 281474976710656 /\ n <= 281474976710656) /\ (∃ (I24 : List Int -> Int -> Int -> Prop) (μ25 : List Int -> Int -> Int -> Nat), I24 (List.replicate n.toNat (0 : Int)) x (0 : Int) /\ ∀ (x21 : List Int) (z22 : Int) (z23 : Int), (I24 x21 z22 z23 -> (((z23 < ((n.toNat : Nat) : Int)) -> ((p ≠ 0) /\ ((0 <= z23 /\ z23 < (n.toNat : Nat)) /\ ((p ≠ 0 /\ I64 (z22.tdiv p)) /\ ((I64 (z23 + (1 : Int))) /\ (I24 (si x21 z23 (z22.tmod p)) (z22.tdiv p) (z23 + (1 : Int)) /\ μ25 (si x21 z23 (z22.tmod p)) (z22.tdiv p) (z23 + (1 : Int)) < μ25 x21 z22 z23)))))) /\ (¬ (z23 < ((n.toNat : Nat) : Int)) -> Q x21))))
theorem Jb3 {w : World} {Q : List Int -> Prop} {p : Int} {n : Int} {x : Int}  (hv : Zd p n x Q) :
  Calls Try.prog 129 #[.int .i64 p, .int .i64 n, .int .i64 x] w fun e w' => ∃ v Qr, e = .returned v /\ w.grownBy w' none /\ Rows w.heap.size none w' Qr /\ News w.heap.size Qr /\ ∃ (x : List Int)  (A : Option Addr) (c : Nat), v = .slice A x.length c /\ Qr = [.row 3 1 A x.length c (is x)] /\ Q x := by
 refine Jo <| Jm (vs := [.int .i64 p, .int .i64 n, .int .i64 x]) [6] Jlm rfl rfl rfl rfl ?_; have hS := Js w; unfold Zd at hv; refine Jg 7 ?_; obtain ⟨o11, hv⟩ := hv; refine Qq (J := n) hS Jq XE3 rfl rfl o11 (Qv _) rfl ?_; intro A12 w13 hS; refine Jd 2 <| Jg 4 <| WL.len Jq rfl rfl <| Jd 2 <| W.block ?_; obtain ⟨I24, μ25, hv, hk33⟩ := hv; refine JB (σ := List Int × Int × Int) (fun q w1 => match q with | (x21, z22, z23) => I24 x21 z22 z23 /\ St TT w none w1 [.row 3 1 A12 n.toNat n.toNat (is x21)]) (fun q => match q with | (x21, z22, z23) => [(0, .int .i64 p), (2, .int .i64 z22), (6, .slice none 0 0), (7, .slice A12 n.toNat n.toNat), (12, .int .i64 ((n.toNat : Nat) : Int)), (13, .int .i64 z23)]) (fun q => match q with | (x21, z22, z23) => μ25 x21 z22 z23) (List.replicate n.toNat (0 : Int), x, (0 : Int)) ⟨hv, hS⟩ ⟨rfl, rfl, rfl, rfl, rfl, rfl, trivial⟩ ?_; rintro ⟨x21, z22, z23⟩ w26 ⟨hv, hS⟩; have hv := hk33 x21 z22 z23 hv; refine Jg 5 <| Jl rfl (fun c27 => ?_) (fun c27 => ?_)
 .have hv := hv.1 (of_decide_eq_true c27); refine Jn <| Jw <| W.block <| Jg 11 ?_; obtain ⟨o28, hv⟩ := hv; refine Yd (r := (z22.tmod p)) rfl rfl o28 rfl rfl ?_; obtain ⟨o29, hv⟩ := hv; refine Jk Jq XE3 (hS.rd (i := 0) rfl) rfl rfl o29 rfl <| Jz (cs' := is (si x21 z23 (z22.tmod p))) 0 z23.toNat hS rfl XE3 rfl rfl rfl (Qy (hS.rd (i := 0) rfl) o29) (Qg _ _ _) ?_; intro w30 hS; refine Ja <| Jg 3 ?_; obtain ⟨o31, hv⟩ := hv; refine Jka (r := (z22.tdiv p)) rfl rfl o31.1 (wr o31.2) rfl <| Jd 2 <| JG ?_; obtain ⟨o32, hv⟩ := hv; refine WL.add (r := (z23 + (1 : Int))) rfl rfl (wr o32) rfl <| Jd 2 ?_; exact ⟨(si x21 z23 (z22.tmod p), (z22.tdiv p), (z23 + (1 : Int))), ⟨rfl, rfl, rfl, rfl, rfl, rfl, trivial⟩, hv.2, rfl, hv.1, hS⟩
 have hv := hv.2 (of_decide_eq_false c27); refine Jy <| Jg 5 <| W.ret ?_; have hm := (hS.rd (i := 0) rfl).ilen; have hS := hS.relen (i := 0) rfl hm.symm; refine ⟨_, rfl, Fin.nil ?_⟩; exact ⟨_, hS.ext, (hS.pick [0] rfl).rows, Jj (hS.pick [0] rfl).rows rfl, ⟨x21, A12, n.toNat, (by rw [hm]), rfl, hv⟩⟩
def YS (Pf : Int) (Mf : Int) (mf : List Int) (x : Int) (Q : Int -> Prop) : Prop :=
  (Pf ≠ 0) /\ ((I64 (Pf - (1 : Int))) /\ ((((x.tmod Pf) = (Pf - (1 : Int))) -> ((Pf ≠ 0) /\ ((I64 (x - (x.tmod Pf))) /\ (Q (x - (x.tmod Pf)))))) /\ (¬ ((x.tmod Pf) = (Pf - (1 : Int))) -> ((I64 (x + (1 : Int))) /\ (Q (x + (1 : Int)))))))
theorem Jfw {w : World} {Q : Int -> Prop} {Pf : Int} {Mf : Int} {mf : List Int} {x : Int} {Bf : Nat} {Af : Option Addr} {nf kf : Nat} (hf : Rd Bf w 1 Af nf kf (is mf)) (hv : YS Pf Mf mf x Q) :
   Calls Try.prog 115 #[.agg #[.int .i64 Pf, .int .i64 Mf, .slice Af nf kf], .int .i64 x] w fun e w' => ∃ v Qr, e = .returned v /\ w.grownBy w' none /\ Rows w.heap.size none w' Qr /\ News w.heap.size Qr /\ ∃ (r0 : Int), v = .int .i64 r0 /\ Qr = [] /\ Q r0 := by
 have hnf := hf.ilen; subst hnf; refine Jo <| Jm (vs := [.agg #[.int .i64 Pf, .int .i64 Mf, .slice Af mf.length kf], .int .i64 x]) [4] XF115 rfl rfl rfl rfl ?_; have hS := Js w; unfold YS at hv; refine Jg 2 <| JD (z := 3) (cs := [.int .i64 Pf, .int .i64 Mf, .slice Af mf.length kf]) hS rfl rfl rfl rfl ?_; intro g11 w12 hS; refine Jd 2 <| Jg 2 ?_; obtain ⟨o17, hv⟩ := hv; obtain ⟨o21, hv⟩ := hv; refine JO 8 [⟨[], [1], true⟩, ⟨[], [2], true⟩, ⟨[1], [], false⟩, ⟨[0, 2], [], true⟩, ⟨[], [2], true⟩, ⟨[4], [], false⟩, ⟨[5], [], true⟩, ⟨[3, 6], [], true⟩] [[(1, .int .i64 x)], [(2, .pointer (some ⟨g11, 0, none⟩))], [], [], [(2, .pointer (some ⟨g11, 0, none⟩))], [], [], []] [(5, .int .i64 x), (6, .pointer (some ⟨g11, 0, none⟩)), (7, .int .i64 Pf), (8, .int .i64 (x.tmod Pf)), (9, .pointer (some ⟨g11, 0, none⟩)), (10, .int .i64 Pf), (11, .int .i64 (Pf - (1 : Int))), (12, .bool (decide ((x.tmod Pf) = (Pf - (1 : Int)))))] Try.mixed (by kernel_rfl) rfl rfl ?_ ?_
 . refine ⟨⟨rfl, ⟨rfl, trivial⟩, fun _ _ _ => Je rfl rfl <| Ja ⟨rfl, rfl⟩⟩, ⟨rfl, ⟨rfl, trivial⟩, fun _ _ _ => Jh (off := 0) J5 rfl rfl <| Ja ⟨rfl, rfl⟩⟩, ⟨rfl, trivial, fun _ hE _ => have hS := hS.grow (hE rfl); Jc XU3 rfl rfl (Jb (hS.own (i := 0) rfl) 0 _ rfl) rfl <| Ja ⟨rfl, Ji _⟩⟩, ⟨rfl, trivial, fun _ _ _ => Yd (r := (x.tmod Pf)) rfl rfl o17 rfl rfl <| Ja ⟨rfl, rfl⟩⟩, ⟨rfl, ⟨rfl, trivial⟩, fun _ _ _ => Jh (off := 0) J5 rfl rfl <| Ja ⟨rfl, rfl⟩⟩, ⟨rfl, trivial, fun _ hE _ => have hS := hS.grow (hE rfl); Jc XU3 rfl rfl (Jb (hS.own (i := 0) rfl) 0 _ rfl) rfl <| Ja ⟨rfl, Ji _⟩⟩, ⟨rfl, trivial, fun _ _ _ => WL.sub (r := (Pf - (1 : Int))) rfl rfl (wr o21) rfl <| Ja ⟨rfl, rfl⟩⟩, ⟨rfl, trivial, fun _ _ _ => Zr rfl rfl rfl <| Ja ⟨rfl, rfl⟩⟩, trivial⟩
 intro w23 hT; have hS := hS.grow hT; refine Jr (by decide +kernel) <| Jl rfl (fun c24 => ?_) (fun c24 => ?_)
 .have hv := hv.1 (of_decide_eq_true c24); refine Jg 4 <| Jh (off := 0) J5 rfl rfl <| Jc XU3 rfl rfl (Jb (hS.own (i := 0) rfl) 0 _ rfl) rfl ?_; obtain ⟨o25, hv⟩ := hv; refine Yd (r := (x.tmod Pf)) rfl rfl o25 rfl rfl ?_; obtain ⟨o26, hv⟩ := hv; refine WL.sub (r := (x - (x.tmod Pf))) rfl rfl (wr o26) rfl <| Jd 2 <| W.ret <| ⟨_, rfl, Fin.nil ?_⟩
  exact ⟨_, hS.ext, (hS.pick [] rfl).rows, Jj (hS.pick [] rfl).rows rfl, ⟨(x - (x.tmod Pf)), rfl, rfl, hv⟩⟩
 have hv := hv.2 (of_decide_eq_false c24); refine Jn <| Jg 3 ?_; obtain ⟨o27, hv⟩ := hv; refine WL.add (r := (x + (1 : Int))) rfl rfl (wr o27) rfl <| Jd 2 <| W.ret <| ⟨_, rfl, Fin.nil ?_⟩
 exact ⟨_, hS.ext, (hS.pick [] rfl).rows, Jj (hS.pick [] rfl).rows rfl, ⟨(x + (1 : Int)), rfl, rfl, hv⟩⟩
def Zv (l : List Int) (Q : List Int -> Prop) : Prop :=
  ∀ b11 : Bool, (b11 = true -> l = []) -> (((b11 = true) -> (Q ([] : List Int))) /\ (b11 = false -> ((((0 : Nat) + (l.length : Nat) : Int) * 8 <= 140737488355328) /\ (Q (([] : List Int) ++ l)))))
theorem Ja4 {w : World} {Q : List Int -> Prop} {l : List Int} {Bl : Nat} {Al : Option Addr} {nl kl : Nat} (hl : Rd Bl w 1 Al nl kl (is l)) (hv : Zv l Q) :
  Calls Try.prog 91 #[.slice Al nl kl] w fun e w' => ∃ v Qr, e = .returned v /\ w.grownBy w' none /\ Rows w.heap.size none w' Qr /\ News w.heap.size Qr /\ ∃ (x : List Int)  (A : Option Addr) (c : Nat), v = .slice A x.length c /\ Qr = [.row 3 1 A x.length c (is x)] /\ Q x := by
 have hnl := hl.ilen; subst hnl; refine Jo <| Jm (vs := [.slice Al l.length kl]) [2] XF91 rfl rfl rfl rfl ?_; have hS := Js w; unfold Zv at hv; refine Jg 8 ?_; obtain ⟨b11, hb11⟩ : ∃ b, Al.isNone = b := ⟨_, rfl⟩
 have hv := hv b11 (fun h => Jnl (hS.ro hl) (hb11.trans h)); refine Jnj hb11 Jq rfl rfl rfl <| Ja <| Jl rfl (fun c12 => ?_) (fun c12 => ?_)
 .have hv := hv.1 (c12); refine Jg 4 <| W.ret ?_; have hS := hS.nil (e := 3) (z := 1); refine ⟨_, rfl, Fin.nil ?_⟩; exact ⟨_, hS.ext, (hS.pick [0] rfl).rows, Jj (hS.pick [0] rfl).rows rfl, ⟨([] : List Int), none, 0, rfl, rfl, hv⟩⟩
 have hv := hv.2 (c12); refine Jn <| Jg 2 <| JL (vs := is ([] : List Int)) hS Jq XE3 rfl rfl rfl rfl (JV _) rfl ?_; intro A13 w14 hS; refine Je rfl rfl ?_; obtain ⟨o16, hv⟩ := hv; refine SL.append (cs := is ([] : List Int)) (cs' := is l) 0 ((([] : List Int) ++ l).length) (is (([] : List Int) ++ l)) hS rfl Jq XE3 (hS.ro hl) (JV _) rfl rfl (apk o16).1 (apk o16).2 (Y5 (hS.rd (i := 0) rfl) (hS.ro hl)) (Qh _ _) rfl ?_; intro A17 k18 w19 hS; refine Jd 2 <| W.ret <| ⟨_, rfl, Fin.nil ?_⟩
 exact ⟨_, hS.ext, (hS.pick [0] rfl).rows, Jj (hS.pick [0] rfl).rows rfl, ⟨([] : List Int) ++ l, A17, k18, rfl, rfl, hv⟩⟩
def Y9 (Pf : Int) (Mf : Int) (mf : List Int) (Q : Int -> Prop) : Prop :=
  ((Pf < (2 : Int)) -> (Q (0 : Int))) /\ (¬ (Pf < (2 : Int)) -> (((Mf < (1 : Int)) -> (Q (0 : Int))) /\ (¬ (Mf < (1 : Int)) -> ((((8 : Int) < Mf) -> (Q (0 : Int))) /\ (¬ ((8 : Int) < Mf) -> (∃ (I22 : Int -> Int -> Prop) (μ23 : Int -> Int -> Nat), I22 (1 : Int) (0 : Int) /\ ∀ (z20 : Int) (z21 : Int), (I22 z20 z21 -> (((z21 < Mf) -> ((Pf ≠ 0 /\ I64 ((256 : Int).tdiv Pf)) /\ (((((256 : Int).tdiv Pf) < z20) -> (Q (0 : Int))) /\ (¬ (((256 : Int).tdiv Pf) < z20) -> ((I64 (z20 * Pf)) /\ ((I64 (z21 + (1 : Int))) /\ (I22 (z20 * Pf) (z21 + (1 : Int)) /\ μ23 (z20 * Pf) (z21 + (1 : Int)) < μ23 z20 z21))))))) /\ (¬ (z21 < Mf) -> Q z20)))))))))
theorem Jb0 {w : World} {Q : Int -> Prop} {Pf : Int} {Mf : Int} {mf : List Int} {Bf : Nat} {Af : Option Addr} {nf kf : Nat} (hf : Rd Bf w 1 Af nf kf (is mf)) (hv : Y9 Pf Mf mf Q) :
   Calls Try.prog 26 #[.agg #[.int .i64 Pf, .int .i64 Mf, .slice Af nf kf]] w fun e w' => ∃ v Qr, e = .returned v /\ w.grownBy w' none /\ Rows w.heap.size none w' Qr /\ News w.heap.size Qr /\ ∃ (r0 : Int), v = .int .i64 r0 /\ Qr = [] /\ Q r0 := by
 have hnf := hf.ilen; subst hnf; refine Jo <| Jm (vs := [.agg #[.int .i64 Pf, .int .i64 Mf, .slice Af mf.length kf]]) [2] XF26 rfl rfl rfl rfl ?_; have hS := Js w; unfold Y9 at hv; refine Jg 2 <| JD (z := 3) (cs := [.int .i64 Pf, .int .i64 Mf, .slice Af mf.length kf]) hS rfl rfl rfl rfl ?_; intro g11 w12 hS; refine Jd 2 <| Jg 3 <| Jh (off := 0) J5 rfl rfl <| Jc XU3 rfl rfl (Jb (hS.own (i := 0) rfl) 0 _ rfl) rfl <| Yo rfl rfl rfl <| Je rfl rfl ?_; by_cases g13 : Pf < (2 : Int)
 .have hv := hv.1 g13; rw [decide_eq_true g13]; refine Jd 10 <| Qe rfl <| Jg 4 <| W.ret <| ⟨_, rfl, Fin.nil ?_⟩
  exact ⟨_, hS.ext, (hS.pick [] rfl).rows, Jj (hS.pick [] rfl).rows rfl, ⟨(0 : Int), rfl, rfl, hv⟩⟩
 have hv := hv.2 g13; rw [decide_eq_false g13]; refine WL.take rfl <| Jh (off := 1) Qk rfl rfl <| WL.take rfl <| Jc XU3 rfl rfl (Jb (hS.own (i := 0) rfl) 1 _ rfl) rfl <| Jd 3 <| Je rfl rfl ?_; by_cases g14 : Mf < (1 : Int)
 .have hv := hv.1 g14; rw [decide_eq_true g14]; refine Jd 5 <| Qe rfl <| Jg 4 <| W.ret <| ⟨_, rfl, Fin.nil ?_⟩
  exact ⟨_, hS.ext, (hS.pick [] rfl).rows, Jj (hS.pick [] rfl).rows rfl, ⟨(0 : Int), rfl, rfl, hv⟩⟩
 have hv := hv.2 g14; rw [decide_eq_false g14]; refine WL.take rfl <| Jh (off := 1) Qk rfl rfl <| WL.take rfl <| Jc XU3 rfl rfl (Jb (hS.own (i := 0) rfl) 1 _ rfl) rfl <| Jd 4 <| Jl rfl (fun c15 => ?_) (fun c15 => ?_)
 .have hv := hv.1 (of_decide_eq_true c15); refine Jg 4 <| W.ret <| ⟨_, rfl, Fin.nil ?_⟩
  exact ⟨_, hS.ext, (hS.pick [] rfl).rows, Jj (hS.pick [] rfl).rows rfl, ⟨(0 : Int), rfl, rfl, hv⟩⟩
 have hv := hv.2 (of_decide_eq_false c15); refine Jn <| Jg 9 <| W.block ?_; obtain ⟨I22, μ23, hv, hk30⟩ := hv; refine JB (σ := Int × Int) (fun q w1 => match q with | (z20, z21) => I22 z20 z21 /\ St TT w none w1 [.row 24 3 (some ⟨g11, 0, none⟩) 1 1 [.int .i64 Pf, .int .i64 Mf, .slice Af mf.length kf]]) (fun q => match q with | (z20, z21) => [(1, .pointer (some ⟨g11, 0, none⟩)), (2, .int .i64 0), (3, .int .i64 z20), (4, .int .i64 z21)]) (fun q => match q with | (z20, z21) => μ23 z20 z21) ((1 : Int), (0 : Int)) ⟨hv, hS⟩ ⟨rfl, rfl, rfl, rfl, trivial⟩ ?_; rintro ⟨z20, z21⟩ w24 ⟨hv, hS⟩; have hv := hk30 z20 z21 hv; refine Jg 4 <| Jh (off := 1) Qk rfl rfl <| Jc XU3 rfl rfl (Jb (hS.own (i := 0) rfl) 1 _ rfl) rfl <| Jd 2 <| Jl rfl (fun c25 => ?_) (fun c25 => ?_)
 .have hv := hv.1 (of_decide_eq_true c25); refine Jn <| Jw <| W.block <| Jg 4 <| Jh (off := 0) J5 rfl rfl <| Jc XU3 rfl rfl (Jb (hS.own (i := 0) rfl) 0 _ rfl) rfl ?_; obtain ⟨o26, hv⟩ := hv; refine Jka (r := ((256 : Int).tdiv Pf)) rfl rfl o26.1 (wr o26.2) rfl <| Jd 2 <| Jl rfl (fun c27 => ?_) (fun c27 => ?_)
  .have hv := hv.1 (of_decide_eq_true c27); refine Jg 4 <| W.ret <| ⟨_, rfl, Fin.nil ?_⟩
   exact ⟨_, hS.ext, (hS.pick [] rfl).rows, Jj (hS.pick [] rfl).rows rfl, ⟨(0 : Int), rfl, rfl, hv⟩⟩
  have hv := hv.2 (of_decide_eq_false c27); refine Jn <| Jg 2 <| Jh (off := 0) J5 rfl rfl <| Jc XU3 rfl rfl (Jb (hS.own (i := 0) rfl) 0 _ rfl) rfl ?_; obtain ⟨o28, hv⟩ := hv; refine WL.mul (r := (z20 * Pf)) rfl rfl (wr o28) rfl <| Jd 2 <| Jg 2 ?_; obtain ⟨o29, hv⟩ := hv; refine WL.add (r := (z21 + (1 : Int))) rfl rfl (wr o29) rfl <| Jd 2 ?_; exact ⟨((z20 * Pf), (z21 + (1 : Int))), ⟨rfl, rfl, rfl, rfl, trivial⟩, hv.2, rfl, hv.1, hS⟩
 have hv := hv.2 (of_decide_eq_false c25); refine Jy <| Jg 5 <| W.ret <| ⟨_, rfl, Fin.nil ?_⟩
 exact ⟨_, hS.ext, (hS.pick [] rfl).rows, Jj (hS.pick [] rfl).rows rfl, ⟨z20, rfl, rfl, hv⟩⟩
def Jbk (x : Int) (Q : Bool -> Prop) : Prop :=
  ∃ (I14 : Int -> Prop) (μ15 : Int -> Nat), I14 (2 : Int) /\ ∀ (z13 : Int), (I14 z13 -> (((z13 < x) -> ((z13 ≠ 0) /\ ((((x.tmod z13) = (0 : Int)) -> Q false) /\ (¬ ((x.tmod z13) = (0 : Int)) -> ((I64 (z13 + (1 : Int))) /\ (I14 (z13 + (1 : Int)) /\ μ15 (z13 + (1 : Int)) < μ15 z13)))))) /\ (¬ (z13 < x) -> Q true)))
theorem Jme {w : World} {Q : Bool -> Prop} {x : Int}  (hv : Jbk x Q) :
   Calls Try.prog 79 #[.int .i64 x] w fun e w' => ∃ v Qr, e = .returned v /\ w.grownBy w' none /\ Rows w.heap.size none w' Qr /\ News w.heap.size Qr /\ ∃ (r0 : Bool), v = .bool r0 /\ Qr = [] /\ Q r0 := by
 refine Jo <| Jm (vs := [.int .i64 x]) [2] XF79 rfl rfl rfl rfl ?_; have hS := Js w; unfold Jbk at hv; refine Jg 9 <| W.block ?_; obtain ⟨I14, μ15, hv, hk21⟩ := hv; refine JB (σ := Int) (fun z13 w1 => I14 z13 /\ St TT w none w1 []) (fun z13 => [(0, .int .i64 x), (2, .bool false), (3, .int .i64 z13)]) (fun z13 => μ15 z13) (2 : Int) ⟨hv, hS⟩ ⟨rfl, rfl, rfl, trivial⟩ ?_; rintro z13 w16 ⟨hv, hS⟩; have hv := hk21 z13 hv; refine Jg 7 <| Jl rfl (fun c17 => ?_) (fun c17 => ?_)
 .have hv := hv.1 (of_decide_eq_true c17); refine Jn <| Jw <| W.block <| Jg 4 ?_; obtain ⟨o18, hv⟩ := hv; refine Yd (r := (x.tmod z13)) rfl rfl o18 rfl rfl <| Jd 2 <| Jl rfl (fun c19 => ?_) (fun c19 => ?_)
  .have hv := hv.1 (of_decide_eq_true c19); refine Jg 4 <| W.ret <| ⟨_, rfl, Fin.nil ?_⟩
   exact ⟨_, hS.ext, (hS.pick [] rfl).rows, Jj (hS.pick [] rfl).rows rfl, ⟨false, rfl, rfl, hv⟩⟩
  have hv := hv.2 (of_decide_eq_false c19); refine Jn <| Jg 2 ?_; obtain ⟨o20, hv⟩ := hv; refine WL.add (r := (z13 + (1 : Int))) rfl rfl (wr o20) rfl <| Jd 2 ?_; exact ⟨(z13 + (1 : Int)), ⟨rfl, rfl, rfl, trivial⟩, hv.2, rfl, hv.1, hS⟩
 have hv := hv.2 (of_decide_eq_false c17); refine Jy <| Jg 4 <| W.ret <| ⟨_, rfl, Fin.nil ?_⟩
 exact ⟨_, hS.ext, (hS.pick [] rfl).rows, Jj (hS.pick [] rfl).rows rfl, ⟨true, rfl, rfl, hv⟩⟩
def Y8 (x : Int) (p : Int) (n : Int) (Q : List Int -> Prop) : Prop :=
  (0 <= n /\ n * 8 <= 281474976710656 /\ n <= 281474976710656) /\ (∃ (I24 : List Int -> Int -> Int -> Prop) (μ25 : List Int -> Int -> Int -> Nat), I24 (List.replicate n.toNat (0 : Int)) x (0 : Int) /\ ∀ (x21 : List Int) (z22 : Int) (z23 : Int), (I24 x21 z22 z23 -> (((z23 < n) -> ((p ≠ 0) /\ ((0 <= z23 /\ z23 < (n.toNat : Nat)) /\ ((p ≠ 0 /\ I64 (z22.tdiv p)) /\ ((I64 (z23 + (1 : Int))) /\ (I24 (si x21 z23 (z22.tmod p)) (z22.tdiv p) (z23 + (1 : Int)) /\ μ25 (si x21 z23 (z22.tmod p)) (z22.tdiv p) (z23 + (1 : Int)) < μ25 x21 z22 z23)))))) /\ (¬ (z23 < n) -> Q x21))))
theorem Jds {w : World} {Q : List Int -> Prop} {x : Int} {p : Int} {n : Int}  (hv : Y8 x p n Q) :
  Calls Try.prog 108 #[.int .i64 x, .int .i64 p, .int .i64 n] w fun e w' => ∃ v Qr, e = .returned v /\ w.grownBy w' none /\ Rows w.heap.size none w' Qr /\ News w.heap.size Qr /\ ∃ (x : List Int)  (A : Option Addr) (c : Nat), v = .slice A x.length c /\ Qr = [.row 3 1 A x.length c (is x)] /\ Q x := by
 refine Jo <| Jm (vs := [.int .i64 x, .int .i64 p, .int .i64 n]) [6] Jqh rfl rfl rfl rfl ?_; have hS := Js w; unfold Y8 at hv; refine Jg 7 ?_; obtain ⟨o11, hv⟩ := hv; refine Qq (J := n) hS Jq XE3 rfl rfl o11 (Qv _) rfl ?_; intro A12 w13 hS; refine Jd 2 <| Jg 5 <| W.block ?_; obtain ⟨I24, μ25, hv, hk33⟩ := hv; refine JB (σ := List Int × Int × Int) (fun q w1 => match q with | (x21, z22, z23) => I24 x21 z22 z23 /\ St TT w none w1 [.row 3 1 A12 n.toNat n.toNat (is x21)]) (fun q => match q with | (x21, z22, z23) => [(0, .int .i64 z22), (1, .int .i64 p), (2, .int .i64 n), (6, .slice none 0 0), (7, .slice A12 n.toNat n.toNat), (8, .int .i64 z23)]) (fun q => match q with | (x21, z22, z23) => μ25 x21 z22 z23) (List.replicate n.toNat (0 : Int), x, (0 : Int)) ⟨hv, hS⟩ ⟨rfl, rfl, rfl, rfl, rfl, rfl, trivial⟩ ?_; rintro ⟨x21, z22, z23⟩ w26 ⟨hv, hS⟩; have hv := hk33 x21 z22 z23 hv; refine Jg 7 <| Jl rfl (fun c27 => ?_) (fun c27 => ?_)
 .have hv := hv.1 (of_decide_eq_true c27); refine Jn <| Jw <| W.block <| Jg 6 ?_; obtain ⟨o28, hv⟩ := hv; refine Yd (r := (z22.tmod p)) rfl rfl o28 rfl rfl ?_; obtain ⟨o29, hv⟩ := hv; refine Jk Jq XE3 (hS.rd (i := 0) rfl) rfl rfl o29 rfl <| Jz (cs' := is (si x21 z23 (z22.tmod p))) 0 z23.toNat hS rfl XE3 rfl rfl rfl (Qy (hS.rd (i := 0) rfl) o29) (Qg _ _ _) ?_; intro w30 hS; refine Ja <| Jg 3 ?_; obtain ⟨o31, hv⟩ := hv; refine Jka (r := (z22.tdiv p)) rfl rfl o31.1 (wr o31.2) rfl <| Jd 2 <| Jg 2 ?_; obtain ⟨o32, hv⟩ := hv; refine WL.add (r := (z23 + (1 : Int))) rfl rfl (wr o32) rfl <| Jd 2 ?_; exact ⟨(si x21 z23 (z22.tmod p), (z22.tdiv p), (z23 + (1 : Int))), ⟨rfl, rfl, rfl, rfl, rfl, rfl, trivial⟩, hv.2, rfl, hv.1, hS⟩
 have hv := hv.2 (of_decide_eq_false c27); refine Jy <| Jg 5 <| W.ret ?_; have hm := (hS.rd (i := 0) rfl).ilen; have hS := hS.relen (i := 0) rfl hm.symm; refine ⟨_, rfl, Fin.nil ?_⟩; exact ⟨_, hS.ext, (hS.pick [0] rfl).rows, Jj (hS.pick [0] rfl).rows rfl, ⟨x21, A12, n.toNat, (by rw [hm]), rfl, hv⟩⟩
end Go.Proofs.Ytiboieijhehjnaa
set_option linter.unusedSimpArgs false
set_option linter.unusedVariables false
namespace Go.Proofs.Ytiboieijhehjnaa
open Go.RowKit
theorem Jgh {w : World} {p : Addr} {A : Option Addr} {m c : Nat} (hm : m <= 9223372036854775807) :
    SeqJ Try.prog 136 #[.pointer (some p)] (fun w1 => w1.cell? p = some (.slice A m c) /\ ∃ l : List Int, ∃ B, Rd B w1 1 A m c (is l)) (fun i x w1 => ∃ v : Int, x = #[.int .i64 ((m - 1 - i : Nat) : Int), .int .i64 v] /\ w1.cell? ((JK A).add (m - 1 - i)) = some (.int .i64 v)) m w := by
  intro l J Jx Wn hW hJ hJx hM hY h0
  refine Jm (vs := [.func (.yield l) #[] #[], .pointer (some p)]) (R := fun _ w' => J m w' ∨ ∃ i, i <= m /\ Jx i w') [] Try.func136 rfl rfl rfl rfl ?_
  have hM0 := hM 0 Wn h0
  refine Jw ?_
  refine JG ?_
  refine Jc Try.underlying22 rfl rfl hM0.1 rfl ?_
  refine WL.len Try.underlying22 rfl rfl ?_
  refine WL.sub (r := (m : Int) - 1) rfl rfl (wi64 (by omega) (by omega) rfl) rfl ?_
  refine JX rfl rfl ?_
  refine Ja ?_
  refine W.block ?_
  refine JB (σ := Nat) (fun i w1 => J i w1 /\ i <= m) (fun i => [(0, .func (.yield l) #[] #[]), (1, .pointer (some p)), (3, .int .i64 ((m : Int) - 1 - i))]) (fun i => m - i) 0 ⟨h0, Nat.zero_le _⟩ ⟨rfl, rfl, iv (by omega), trivial⟩ ?_
  rintro i w1 ⟨hi, hle⟩
  obtain ⟨hMp, xs, Bx, hR⟩ := hM i w1 hi
  refine Jw ?_
  refine Jw ?_
  refine JG ?_
  refine Je rfl rfl ?_
  refine Jgp rfl rfl rfl ?_
  refine Ja ?_
  refine Jl rfl (fun c => ?_) (fun c => ?_)
  . have c := of_decide_eq_true c
    have hj : (m : Int) - 1 - i = ((m - 1 - i : Nat) : Int) := by omega
    rw [hj]
    refine Jn ?_
    refine Jw ?_
    refine W.block ?_
    refine Jw ?_
    refine JG ?_
    refine Je rfl rfl ?_
    refine Je rfl rfl ?_
    refine Jc Try.underlying22 rfl rfl hMp rfl ?_
    refine Je rfl rfl ?_
    refine Je6 (m - 1 - i) Try.underlying22 Try.el3 rfl rfl rfl (by omega) hR rfl ?_
    have hcell := hR.at_ (Jo6 (show m - 1 - i < xs.length by have := hR.ilen; omega))
    refine Jc Try.underlying3 rfl rfl hcell rfl ?_
    refine Jif (vs := [.int .i64 ((m - 1 - i : Nat) : Int), .int .i64 (xs.getD (m - 1 - i) 0)]) rfl rfl rfl (hY i #[.int .i64 ((m - 1 - i : Nat) : Int), .int .i64 (xs.getD (m - 1 - i) 0)] w1 hi (by omega) ⟨_, rfl, hcell⟩) (fun e w' h => by rcases h with ⟨h, _⟩ | ⟨h, _⟩ <;> exact ⟨_, h⟩) ?_
    rintro v w2 (⟨hv, h⟩ | ⟨hv, h⟩)
    . cases hv
      refine Zq rfl rfl ?_
      refine Ja ?_
      refine Qw rfl ?_
      refine Jn ?_
      refine JG ?_
      refine Je rfl rfl ?_
      refine WL.sub (r := (m : Int) - 1 - ((i + 1 : Nat) : Int)) rfl rfl (wi64 (by omega) (by omega) (by omega)) rfl ?_
      refine JX rfl rfl ?_
      refine Ja ?_
      exact ⟨i + 1, ⟨rfl, rfl, rfl, trivial⟩, by omega, rfl, h, by omega⟩
    . cases hv
      refine Zq rfl rfl ?_
      refine Ja ?_
      refine Qe rfl ?_
      refine W.ret ?_
      exact ⟨_, rfl, Fin.nil (.inr ⟨i + 1, by omega, h⟩)⟩
  . have c := of_decide_eq_false c
    refine Jy ?_
    have : i = m := by omega
    subst this
    exact ⟨_, rfl, Fin.nil (.inl hi)⟩
theorem Jf9 {w : World} {p ad : Addr} {q : Int} (hq : I64 q) (hp : w.cell? p = some (.pointer (some ad))) (ha : w.cell? (ad.add 3) = some (.int .i64 q)) :
  SeqJ Try.prog 130 #[.pointer (some p)] (fun _ => True) (fun i x _ => x = #[.int .i64 (i : Int)]) q.toNat w := by
 intro l J Jx Wn hW hJ hJx _ hY h0; have hp' : Wn.cell? p = some (.pointer (some ad)) := (hW.cell (World.block_lt_of_cell? w _ hp)).trans hp; have ha' : Wn.cell? (ad.add 3) = some (.int .i64 q) := (hW.cell (World.block_lt_of_cell? w _ ha)).trans ha; refine Jm (vs := [.func (.yield l) #[] #[], .pointer (some p)]) (R := fun _ w' => J q.toNat w' ∨ ∃ i, i <= q.toNat /\ Jx i w') [] Try.func130 rfl rfl rfl rfl ?_; refine Jw ?_; refine JG ?_; refine Jc Try.underlying69 rfl rfl hp' rfl ?_; refine JP rfl rfl ?_; refine Jh (off := 3) Try.fla117_1 rfl rfl ?_; refine Jc Try.underlying3 rfl rfl ha' rfl ?_; refine Je rfl rfl ?_; refine Ja ?_; refine W.block ?_; refine JB (σ := Nat) (fun i w1 => J i w1 /\ i <= q.toNat) (fun i => [(0, .func (.yield l) #[] #[]), (7, .int .i64 q), (8, .int .i64 (i : Int))]) (fun i => q.toNat - i) 0 ⟨h0, Nat.zero_le _⟩ ⟨rfl, rfl, rfl, trivial⟩ ?_; rintro i w1 ⟨hi, hle⟩; refine Jw ?_; refine JG ?_; refine Yo rfl rfl rfl ?_; refine Ja ?_; refine Jw ?_; refine Jl rfl (fun c => ?_) (fun c => ?_)
 .have c := of_decide_eq_true c; refine Jn ?_; refine Jw ?_; refine W.block ?_; refine Jw ?_; refine JG ?_; refine Je rfl rfl ?_; refine JX rfl rfl ?_; refine Ja ?_; refine Jw ?_; refine JG ?_; refine Je rfl rfl ?_; refine Je rfl rfl ?_; refine Jif (vs := [.int .i64 (i : Int)]) rfl rfl rfl (hY i #[.int .i64 (i : Int)] w1 hi (by omega) rfl) (fun e w' h => by rcases h with ⟨h, _⟩ | ⟨h, _⟩ <;> exact ⟨_, h⟩) ?_; rintro v w2 (⟨hv, h⟩ | ⟨hv, h⟩)
  .cases hv; refine Zq rfl rfl ?_; refine Ja ?_; refine Qw rfl ?_; refine Jn ?_; refine JG ?_; refine WL.add (r := ((i + 1 : Nat) : Int)) rfl rfl (wi64 (by omega) (by have := hq.2; omega) (by omega)) rfl ?_; refine Je rfl rfl ?_; refine Ja ?_; exact ⟨i + 1, ⟨rfl, rfl, rfl, trivial⟩, by omega, rfl, h, by omega⟩
  .cases hv; refine Zq rfl rfl ?_; refine Ja ?_; refine Qe rfl ?_; refine W.ret ?_; exact ⟨_, rfl, Fin.nil (.inr ⟨i + 1, by omega, h⟩)⟩
 .have c := of_decide_eq_false c; refine Jy ?_; have : i = q.toNat := by omega
  subst this; exact ⟨_, rfl, Fin.nil (.inl hi)⟩
end Go.Proofs.Ytiboieijhehjnaa
set_option linter.unusedSimpArgs false
set_option linter.unusedVariables false
namespace Go.Proofs.Ytiboieijhehjnaa
open Go.RowKit
structure GFv where
  P : Int
  M : Int
  mod : List Int
  q : Int
  exp : List Int
  log : List Int
  above : List Int
def GFR (B : Nat) (w : World) (ad : Addr) (F : GFv) : Prop := ∃ A1 k1 A2 k2 A3 k3 A4 k4,
  Rd B w 7 (some ad) 1 1 [.int .i64 F.P, .int .i64 F.M, .slice A1 F.mod.length k1, .int .i64 F.q, .slice A2 F.exp.length k2, .slice A3 F.log.length k3, .slice A4 F.above.length k4] /\
  Rd B w 1 A1 F.mod.length k1 (is F.mod) /\ Rd B w 1 A2 F.exp.length k2 (is F.exp) /\ Rd B w 1 A3 F.log.length k3 (is F.log) /\ Rd B w 1 A4 F.above.length k4 (is F.above)
theorem GFR.ext {B : Nat} {w w' : World} {ad : Addr} {F : GFv} (h : GFR B w ad F) (hg : w.grownBy w' none) : GFR B w' ad F := by
 obtain ⟨A1, k1, A2, k2, A3, k3, A4, k4, h1, h2, h3, h4, h5⟩ := h; exact ⟨A1, k1, A2, k2, A3, k3, A4, k4, h1.ext hg, h2.ext hg, h3.ext hg, h4.ext hg, h5.ext hg⟩
def GFX (lo B : Nat) (w : World) (ad : Addr) (F : GFv) : Prop := ∃ A1 k1 A2 k2 A3 k3 A4 k4,
  (Rd B w 7 (some ad) 1 1 [.int .i64 F.P, .int .i64 F.M, .slice A1 F.mod.length k1, .int .i64 F.q, .slice A2 F.exp.length k2, .slice A3 F.log.length k3, .slice A4 F.above.length k4] /\ lo <= ad.block) /\
  (Rd B w 1 A1 F.mod.length k1 (is F.mod) /\ ∀ g, bl A1 = some g -> lo <= g) /\ (Rd B w 1 A2 F.exp.length k2 (is F.exp) /\ ∀ g, bl A2 = some g -> lo <= g) /\ (Rd B w 1 A3 F.log.length k3 (is F.log) /\ ∀ g, bl A3 = some g -> lo <= g) /\ (Rd B w 1 A4 F.above.length k4 (is F.above) /\ ∀ g, bl A4 = some g -> lo <= g)
theorem GFX.gfr {lo B : Nat} {w : World} {ad : Addr} {F : GFv} (h : GFX lo B w ad F) : GFR B w ad F := by
 obtain ⟨A1, k1, A2, k2, A3, k3, A4, k4, h1, h2, h3, h4, h5⟩ := h; exact ⟨A1, k1, A2, k2, A3, k3, A4, k4, h1.1, h2.1, h3.1, h4.1, h5.1⟩
theorem Rd.steady {lo B : Nat} {w w' : World} {z : Nat} {A : Option Addr} {m c : Nat} {cs : List Value} (h : Rd B w z A m c cs) (hl : ∀ g, bl A = some g -> lo <= g) (hw : ∀ k, lo <= k -> k < B -> w'.heap[k]? = w.heap[k]?) : Rd B w' z A m c cs :=
 ⟨h.len, h.cap, h.max, fun hm => by
  obtain ⟨ad, e1, e2, e3⟩ := h.cells hm; refine ⟨ad, e1, e2, fun j u hu => (World.cell?_of_block (hw _ ?_ ?_)).trans (e3 j u hu)⟩
  .rw [QH]; exact hl _ (by rw [e1]; rfl)
  .rw [QH]; exact e2⟩
theorem GFX.steady {lo B : Nat} {ad : Addr} {F : GFv} : Jqo lo B (fun w => GFX lo B w ad F) := by
 rintro w w' hw ⟨A1, k1, A2, k2, A3, k3, A4, k4, h1, h2, h3, h4, h5⟩; exact ⟨A1, k1, A2, k2, A3, k3, A4, k4, ⟨h1.1.steady (fun g hg => by cases hg; exact h1.2) hw, h1.2⟩, ⟨h2.1.steady h2.2 hw, h2.2⟩, ⟨h3.1.steady h3.2 hw, h3.2⟩, ⟨h4.1.steady h4.2 hw, h4.2⟩, ⟨h5.1.steady h5.2 hw, h5.2⟩⟩
theorem gfx_mk {lo B : Nat} {w : World} {ad : Addr} {F : GFv} {A1 A2 A3 A4 : Option Addr} {k1 k2 k3 k4 n1 n2 n3 n4 : Nat}
  (h : Rd B w 7 (some ad) 1 1 [.int .i64 F.P, .int .i64 F.M, .slice A1 n1 k1, .int .i64 F.q, .slice A2 n2 k2, .slice A3 n3 k3, .slice A4 n4 k4]) (hl : lo <= ad.block)
  (h1 : Rd B w 1 A1 n1 k1 (is F.mod) /\ ∀ g, bl A1 = some g -> lo <= g) (h2 : Rd B w 1 A2 n2 k2 (is F.exp) /\ ∀ g, bl A2 = some g -> lo <= g) (h3 : Rd B w 1 A3 n3 k3 (is F.log) /\ ∀ g, bl A3 = some g -> lo <= g) (h4 : Rd B w 1 A4 n4 k4 (is F.above) /\ ∀ g, bl A4 = some g -> lo <= g) : GFX lo B w ad F := by
 have e1 := h1.1.ilen; have e2 := h2.1.ilen; have e3 := h3.1.ilen; have e4 := h4.1.ilen; subst e1; subst e2; subst e3; subst e4; exact ⟨A1, k1, A2, k2, A3, k3, A4, k4, ⟨h, hl⟩, h1, h2, h3, h4⟩
theorem St.base {X : World -> Prop} {w0 w : World} {R : List Rw} {i e z m c : Nat} {A : Option Addr} {cs : List Value} (h : St X w0 none w R) (hi : R[i]? = some (.row e z A m c cs)) : ∀ g, bl A = some g -> w0.heap.size <= g := fun g hg => ((h.rows.get hi).2 g hg).resolve_right (by simp)
theorem GFR.norm {B : Nat} {w : World} {ad : Addr} {F : GFv} (h : GFR B w ad F) : GFR w.heap.size w ad F := by
 obtain ⟨A1, k1, A2, k2, A3, k3, A4, k4, h1, h2, h3, h4, h5⟩ := h; exact ⟨A1, k1, A2, k2, A3, k3, A4, k4, h1.norm, h2.norm, h3.norm, h4.norm, h5.norm⟩
end Go.Proofs.Ytiboieijhehjnaa
set_option linter.unusedSimpArgs false
set_option linter.unusedVariables false
set_option maxRecDepth 4000
set_option maxHeartbeats 4000000
namespace Go.Proofs.Ytiboieijhehjnaa
open Go.RowKit
def Jec (x : Int) (Pf : Int) (Mf : Int) (mf : List Int) (Q : Bool -> Prop) : Prop :=
  ((x < (0 : Int)) -> Q true) /\ (¬ (x < (0 : Int)) -> (Q (decide (Pf <= x))))
theorem Jmj {w : World} {Q : Bool -> Prop} {x : Int} {Pf : Int} {Mf : Int} {mf : List Int} {af : Addr} {Bf Cf : Nat} {Af : Option Addr} {nf kf : Nat} (hcf : Rd Cf w 3 (some af) 1 1 [.int .i64 Pf, .int .i64 Mf, .slice Af nf kf]) (hmf : Rd Bf w 1 Af nf kf (is mf)) (hv : Jec x Pf Mf mf Q) :
   Calls Try.prog 122 #[.int .i64 x, .pointer (some af)] w fun e w' => ∃ v Qr, e = .returned v /\ w.grownBy w' none /\ Rows w.heap.size none w' Qr /\ News w.heap.size Qr /\ ∃ (r0 : Bool), v = .bool r0 /\ Qr = [] /\ Q r0 := by
 have hnf := hmf.ilen; subst hnf; refine Jo <| Jm (vs := [.int .i64 x, .pointer (some af)]) [3] XF122 rfl rfl rfl rfl ?_; have hS := Js w; unfold Jec at hv; refine Jg 8 <| Je rfl rfl ?_; by_cases g11 : x < (0 : Int)
 .have hv := hv.1 g11; rw [decide_eq_true g11]; refine Jd 7 <| W.ret <| ⟨_, rfl, Fin.nil ?_⟩
  exact ⟨_, hS.ext, (hS.pick [] rfl).rows, Jj (hS.pick [] rfl).rows rfl, ⟨true, rfl, rfl, hv⟩⟩
 have hv := hv.2 g11; rw [decide_eq_false g11]; refine Jd 3 <| Jh (off := 0) J5 rfl rfl <| WL.take rfl <| Jc XU3 rfl rfl (Rd.at_ (hS.ro hcf) (j := 0) rfl) rfl <| Jd 5 <| W.ret <| ⟨_, rfl, Fin.nil ?_⟩
 exact ⟨_, hS.ext, (hS.pick [] rfl).rows, Jj (hS.pick [] rfl).rows rfl, ⟨(decide (Pf <= x)), rfl, rfl, hv⟩⟩
def Jar (x : Int) (Q : Bool -> Prop) : Prop :=
  Q (decide (x ≠ (0 : Int)))
theorem Jhk {w : World} {Q : Bool -> Prop} {x : Int}  (hv : Jar x Q) :
  Calls Try.prog 133 #[.int .i64 x] w fun e w' => ∃ v Qr, e = .returned v /\ w.grownBy w' none /\ Rows w.heap.size none w' Qr /\ News w.heap.size Qr /\ ∃ (r0 : Bool), v = .bool r0 /\ Qr = [] /\ Q r0 := by
 refine Jo <| Jm (vs := [.int .i64 x]) [2] XF133 rfl rfl rfl rfl ?_; have hS := Js w; unfold Jar at hv; refine Jg 10 <| W.ret <| ⟨_, rfl, Fin.nil ?_⟩
 exact ⟨_, hS.ext, (hS.pick [] rfl).rows, Jj (hS.pick [] rfl).rows rfl, ⟨(decide (x ≠ (0 : Int))), rfl, rfl, hv⟩⟩
def Jgu (l : List Int) (p : Int -> (Bool -> Prop) -> Prop) (Q : Int -> Prop) : Prop :=
  ∃ (I14 : Int -> Prop) (μ15 : Int -> Nat), I14 (0 : Int) /\ ∀ (z13 : Int), (I14 z13 -> (((z13 < (l.length : Int)) -> ((0 <= z13 /\ z13 < (l.length : Nat)) /\ (p (gi l z13) (fun b20 => ((b20 = true) -> Q z13) /\ (b20 = false -> ((I64 (z13 + (1 : Int))) /\ (I14 (z13 + (1 : Int)) /\ μ15 (z13 + (1 : Int)) < μ15 z13))))))) /\ (¬ (z13 < (l.length : Int)) -> (Q (-1 : Int)))))
theorem Jo0 {w : World} {Q : Int -> Prop} {l : List Int} {p : Int -> (Bool -> Prop) -> Prop} {Bl : Nat} {Al : Option Addr} {nl kl : Nat} (hl : Rd Bl w 1 Al nl kl (is l)) {cfp : Nat} {cgp : Func} {ccp : Code} {csp : List Value} (hcfp : Try.prog.funcs[cfp]? = some cgp) (hcbp : cgp.body = some ccp) (hcnp : (cgp.name == "runtime.NumGoroutine") = false) (hclp : ∀ (wc : World) (xc : Int) (Qc : Bool -> Prop), w.grownBy wc none -> p xc Qc -> Calls Try.prog cfp (.int .i64 xc :: csp).toArray wc fun e w' => ∃ v Qr, e = .returned v /\ wc.grownBy w' none /\ Rows wc.heap.size none w' Qr /\ News wc.heap.size Qr /\ ∃ b : Bool, v = .bool b /\ Qr = [] /\ Qc b) (hv : Jgu l p Q) :
   Calls Try.prog 109 #[.slice Al nl kl, .func (.func cfp) #[] csp.toArray] w fun e w' => ∃ v Qr, e = .returned v /\ w.grownBy w' none /\ Rows w.heap.size none w' Qr /\ News w.heap.size Qr /\ ∃ (r0 : Int), v = .int .i64 r0 /\ Qr = [] /\ Q r0 := by
 have hnl := hl.ilen; subst hnl; refine Jo <| Jm (vs := [.slice Al l.length kl, .func (.func cfp) #[] csp.toArray]) [4] XF109 rfl rfl rfl rfl ?_; have hS := Js w; unfold Jgu at hv; refine Jg 8 <| WL.len Jq rfl rfl <| Jd 2 <| W.block ?_; obtain ⟨I14, μ15, hv, hk23⟩ := hv; refine JB (σ := Int) (fun z13 w1 => I14 z13 /\ St TT w none w1 []) (fun z13 => [(0, .slice Al l.length kl), (1, .func (.func cfp) #[] csp.toArray), (4, .int .i64 0), (7, .int .i64 (l.length : Int)), (8, .int .i64 z13)]) (fun z13 => μ15 z13) (0 : Int) ⟨hv, hS⟩ ⟨rfl, rfl, rfl, rfl, rfl, trivial⟩ ?_; rintro z13 w16 ⟨hv, hS⟩; have hv := hk23 z13 hv; refine Jg 5 <| Jl rfl (fun c17 => ?_) (fun c17 => ?_)
 .have hv := hv.1 (of_decide_eq_true c17); refine Jn <| Jw <| W.block <| Jg 10 ?_; obtain ⟨o18, hv⟩ := hv; refine Jk Jq XE3 (hS.ro hl) rfl rfl o18 rfl <| Jc XU3 rfl rfl (JH (hS.ro hl) o18) rfl <| Jqr (vs := [.int .i64 (gi l z13)]) (cs := csp) hS (hclp _ _ _ hS.ext hv) rfl hcfp hcbp hcnp rfl rfl ?_; rintro _ _ w19 ⟨b20, rfl, rfl, hv⟩ hGw19 hS
  change St _ _ _ _ [] at hS
  refine Ja <| Jl rfl (fun c21 => ?_) (fun c21 => ?_)
  .have hv := hv.1 (c21); refine Jg 5 <| W.ret <| ⟨_, rfl, Fin.nil ?_⟩
   exact ⟨_, hS.ext, (hS.pick [] rfl).rows, Jj (hS.pick [] rfl).rows rfl, ⟨z13, rfl, rfl, hv⟩⟩
  have hv := hv.2 (c21); refine Jn <| JG ?_; obtain ⟨o22, hv⟩ := hv; refine WL.add (r := (z13 + (1 : Int))) rfl rfl (wr o22) rfl <| Jd 2 ?_; exact ⟨(z13 + (1 : Int)), ⟨rfl, rfl, rfl, rfl, rfl, trivial⟩, hv.2, rfl, hv.1, hS⟩
 have hv := hv.2 (of_decide_eq_false c17); refine Jy <| Jg 4 <| W.ret <| ⟨_, rfl, Fin.nil ?_⟩
 exact ⟨_, hS.ext, (hS.pick [] rfl).rows, Jj (hS.pick [] rfl).rows rfl, ⟨(-1 : Int), rfl, rfl, hv⟩⟩
def YK (l : List Int) (p : Int -> (Bool -> Prop) -> Prop) (Q : Bool -> Prop) : Prop :=
  Jgu l p (fun r12 => Q (decide ((0 : Int) <= r12)))
theorem Jcn {w : World} {Q : Bool -> Prop} {l : List Int} {p : Int -> (Bool -> Prop) -> Prop} {Bl : Nat} {Al : Option Addr} {nl kl : Nat} (hl : Rd Bl w 1 Al nl kl (is l)) {cfp : Nat} {cgp : Func} {ccp : Code} {csp : List Value} (hcfp : Try.prog.funcs[cfp]? = some cgp) (hcbp : cgp.body = some ccp) (hcnp : (cgp.name == "runtime.NumGoroutine") = false) (hclp : ∀ (wc : World) (xc : Int) (Qc : Bool -> Prop), w.grownBy wc none -> p xc Qc -> Calls Try.prog cfp (.int .i64 xc :: csp).toArray wc fun e w' => ∃ v Qr, e = .returned v /\ wc.grownBy w' none /\ Rows wc.heap.size none w' Qr /\ News wc.heap.size Qr /\ ∃ b : Bool, v = .bool b /\ Qr = [] /\ Qc b) (hv : YK l p Q) :
  Calls Try.prog 81 #[.slice Al nl kl, .func (.func cfp) #[] csp.toArray] w fun e w' => ∃ v Qr, e = .returned v /\ w.grownBy w' none /\ Rows w.heap.size none w' Qr /\ News w.heap.size Qr /\ ∃ (r0 : Bool), v = .bool r0 /\ Qr = [] /\ Q r0 := by
 have hnl := hl.ilen; subst hnl; refine Jo <| Jm (vs := [.slice Al l.length kl, .func (.func cfp) #[] csp.toArray]) [4] XF81 rfl rfl rfl rfl ?_; have hS := Js w; unfold YK at hv; refine Jg 8 <| SL.call hS (Jo0 (hS.ro hl) hcfp hcbp hcnp (fun wc xc Qc hg hv => hclp wc xc Qc (ZX hS.ext hg) hv) hv) XF109 rfl XN109 rfl rfl ?_; rintro _ _ w11 ⟨r12, rfl, rfl, hv⟩ hGw11 hS; have hS := hS.n0; refine Jd 3 <| W.ret <| ⟨_, rfl, Fin.nil ?_⟩
 exact ⟨_, hS.ext, (hS.pick [] rfl).rows, Jj (hS.pick [] rfl).rows rfl, ⟨(decide ((0 : Int) <= r12)), rfl, rfl, hv⟩⟩
def Zc (p : Int) (l : List Int) (o : List Int) (Q : Bool -> Prop) : Prop :=
  Zv o (fun x12 => (I64 ((x12.length : Int) - (1 : Int))) /\ (∃ (I23 : List Int -> Int -> Prop) (μ24 : List Int -> Int -> Nat), I23 x12 ((x12.length : Int) - (1 : Int)) /\ ∀ (x21 : List Int) (z22 : Int), (I23 x21 z22 -> ((((l.length : Int) <= z22) -> (∃ (I33 : List Int -> Int -> Prop) (μ34 : List Int -> Int -> Nat), I33 x21 (0 : Int) /\ ∀ (x31 : List Int) (z32 : Int), (I33 x31 z32 -> (((z32 < (l.length : Int)) -> ((0 <= z32 /\ z32 < (l.length : Nat)) /\ ((I64 (z22 - (l.length : Int))) /\ ((I64 ((z22 - (l.length : Int)) + z32)) /\ ((0 <= ((z22 - (l.length : Int)) + z32) /\ ((z22 - (l.length : Int)) + z32) < (x12.length : Nat)) /\ ((I64 (p - (gi l z32))) /\ ((0 <= z22 /\ z22 < (x12.length : Nat)) /\ ((I64 ((p - (gi l z32)) * (gi x31 z22))) /\ ((I64 ((gi x31 ((z22 - (l.length : Int)) + z32)) + ((p - (gi l z32)) * (gi x31 z22)))) /\ ((p ≠ 0) /\ ((0 <= ((z22 - (l.length : Int)) + z32) /\ ((z22 - (l.length : Int)) + z32) < (x12.length : Nat)) /\ ((I64 (z32 + (1 : Int))) /\ (I33 (si x31 ((z22 - (l.length : Int)) + z32) (((gi x31 ((z22 - (l.length : Int)) + z32)) + ((p - (gi l z32)) * (gi x31 z22))).tmod p)) (z32 + (1 : Int)) /\ μ34 (si x31 ((z22 - (l.length : Int)) + z32) (((gi x31 ((z22 - (l.length : Int)) + z32)) + ((p - (gi l z32)) * (gi x31 z22))).tmod p)) (z32 + (1 : Int)) < μ34 x31 z32))))))))))))) /\ (¬ (z32 < (l.length : Int)) -> ((I64 (z22 - (1 : Int))) /\ (I23 x31 (z22 - (1 : Int)) /\ μ24 x31 (z22 - (1 : Int)) < μ24 x21 z22))))))) /\ (¬ ((l.length : Int) <= z22) -> ((0 <= (l.length : Int) /\ (l.length : Int) <= (x12.length : Nat)) /\ (YK (x21.take (l.length : Int).toNat) (fun xc Qc => Jar xc  Qc) (fun r71 => Q (!r71)))))))))
theorem Jjc {w : World} {Q : Bool -> Prop} {p : Int} {l : List Int} {o : List Int} {Bl : Nat} {Al : Option Addr} {nl kl : Nat} (hl : Rd Bl w 1 Al nl kl (is l)) {Bo : Nat} {Ao : Option Addr} {no ko : Nat} (ho : Rd Bo w 1 Ao no ko (is o)) (hv : Zc p l o Q) :
   Calls Try.prog 128 #[.int .i64 p, .slice Al nl kl, .slice Ao no ko] w fun e w' => ∃ v Qr, e = .returned v /\ w.grownBy w' none /\ Rows w.heap.size none w' Qr /\ News w.heap.size Qr /\ ∃ (r0 : Bool), v = .bool r0 /\ Qr = [] /\ Q r0 := by
 have hnl := hl.ilen; subst hnl; have hno := ho.ilen; subst hno; refine Jo <| Jm (vs := [.int .i64 p, .slice Al l.length kl, .slice Ao o.length ko]) [6] XF128 rfl rfl rfl rfl ?_; have hS := Js w; unfold Zc at hv; refine Jg 7 <| SL.call hS (Ja4 (hS.ro ho) hv) XF91 rfl XN91 rfl rfl ?_; rintro _ _ w11 ⟨x12, A13, k14, rfl, rfl, hv⟩ hGw11 hS; have hS := hS.n1; refine Jd 2 <| Jg 4 <| WL.len Jq rfl rfl ?_; obtain ⟨o16, hv⟩ := hv; refine WL.sub (r := ((x12.length : Int) - (1 : Int))) rfl rfl (wr o16) rfl <| Jd 2 <| W.block ?_; obtain ⟨I23, μ24, hv, hk72⟩ := hv; refine JB (σ := List Int × Int) (fun q w1 => match q with | (x21, z22) => I23 x21 z22 /\ St TT w none w1 [.row 3 1 A13 x12.length k14 (is x21)]) (fun q => match q with | (x21, z22) => [(0, .int .i64 p), (1, .slice Al l.length kl), (6, .bool false), (7, .slice A13 x12.length k14), (8, .int .i64 z22)]) (fun q => match q with | (x21, z22) => μ24 x21 z22) (x12, ((x12.length : Int) - (1 : Int))) ⟨hv, hS⟩ ⟨rfl, rfl, rfl, rfl, rfl, trivial⟩ ?_; rintro ⟨x21, z22⟩ w25 ⟨hv, hS⟩; have hv := hk72 x21 z22 hv; refine Jg 5 <| WL.len Jq rfl rfl <| Jd 2 <| Jl rfl (fun c26 => ?_) (fun c26 => ?_)
 .have hv := hv.1 (of_decide_eq_true c26); refine Jn <| Jw <| W.block <| Jg 3 <| WL.len Jq rfl rfl <| Jd 2 <| W.block ?_; obtain ⟨I33, μ34, hv, hk68⟩ := hv; refine JB (σ := List Int × Int) (fun q w1 => match q with | (x31, z32) => I33 x31 z32 /\ St TT w none w1 [.row 3 1 A13 x12.length k14 (is x31)]) (fun q => match q with | (x31, z32) => [(0, .int .i64 p), (1, .slice Al l.length kl), (6, .bool false), (7, .slice A13 x12.length k14), (8, .int .i64 z22), (20, .bool (decide ((l.length : Int) <= z22))), (23, .slice Al l.length kl), (24, .int .i64 (l.length : Int)), (25, .int .i64 z32)]) (fun q => match q with | (x31, z32) => μ34 x31 z32) (x21, (0 : Int)) ⟨hv, hS⟩ ⟨rfl, rfl, rfl, rfl, rfl, rfl, rfl, rfl, rfl, trivial⟩ ?_; rintro ⟨x31, z32⟩ w35 ⟨hv, hS⟩; have hv := hk68 x31 z32 hv; refine Jg 5 <| Jl rfl (fun c36 => ?_) (fun c36 => ?_)
  .have hv := hv.1 (of_decide_eq_true c36); refine Jn <| Jw <| W.block <| Jg 3 ?_; obtain ⟨o37, hv⟩ := hv; refine Jk Jq XE3 (hS.ro hl) rfl rfl o37 rfl <| Jc XU3 rfl rfl (JH (hS.ro hl) o37) rfl <| Jd 3 <| Jg 4 <| WL.len Jq rfl rfl ?_; obtain ⟨o38, hv⟩ := hv; refine WL.sub (r := (z22 - (l.length : Int))) rfl rfl (wr o38) rfl <| Je rfl rfl ?_; obtain ⟨o39, hv⟩ := hv; refine WL.add (r := ((z22 - (l.length : Int)) + z32)) rfl rfl (wr o39) rfl <| Jd 2 ?_; obtain ⟨o45, hv⟩ := hv; obtain ⟨o50, hv⟩ := hv; obtain ⟨o54, hv⟩ := hv; obtain ⟨o57, hv⟩ := hv; obtain ⟨o59, hv⟩ := hv; obtain ⟨o62, hv⟩ := hv; refine JO 17 [⟨[], [7], true⟩, ⟨[], [11], true⟩, ⟨[], [7], true⟩, ⟨[], [11], true⟩, ⟨[2, 3], [], true⟩, ⟨[4], [], false⟩, ⟨[], [0], true⟩, ⟨[], [10], true⟩, ⟨[6, 7], [], true⟩, ⟨[], [7], true⟩, ⟨[], [8], true⟩, ⟨[9, 10], [], true⟩, ⟨[11], [], false⟩, ⟨[8, 12], [], true⟩, ⟨[5, 13], [], true⟩, ⟨[], [0], true⟩, ⟨[14, 15], [], true⟩] [[(7, .slice A13 x12.length k14)], [(11, .int .i64 ((z22 - (l.length : Int)) + z32))], [(7, .slice A13 x12.length k14)], [(11, .int .i64 ((z22 - (l.length : Int)) + z32))], [], [], [(0, .int .i64 p)], [(10, .int .i64 (gi l z32))], [], [(7, .slice A13 x12.length k14)], [(8, .int .i64 z22)], [], [], [], [], [(0, .int .i64 p)], []] [(36, .slice A13 x12.length k14), (37, .int .i64 ((z22 - (l.length : Int)) + z32)), (38, .slice A13 x12.length k14), (39, .int .i64 ((z22 - (l.length : Int)) + z32)), (40, .pointer (some ((JK A13).add (((z22 - (l.length : Int)) + z32).toNat)))), (41, .int .i64 (gi x31 ((z22 - (l.length : Int)) + z32))), (42, .int .i64 p), (43, .int .i64 (gi l z32)), (44, .int .i64 (p - (gi l z32))), (45, .slice A13 x12.length k14), (46, .int .i64 z22), (47, .pointer (some ((JK A13).add z22.toNat))), (48, .int .i64 (gi x31 z22)), (49, .int .i64 ((p - (gi l z32)) * (gi x31 z22))), (50, .int .i64 ((gi x31 ((z22 - (l.length : Int)) + z32)) + ((p - (gi l z32)) * (gi x31 z22)))), (51, .int .i64 p), (52, .int .i64 (((gi x31 ((z22 - (l.length : Int)) + z32)) + ((p - (gi l z32)) * (gi x31 z22))).tmod p))] Try.mixed (by kernel_rfl) rfl rfl ?_ ?_
   .refine ⟨⟨rfl, ⟨rfl, trivial⟩, fun _ _ _ => Je rfl rfl <| Ja ⟨rfl, rfl⟩⟩, ⟨rfl, ⟨rfl, trivial⟩, fun _ _ _ => Je rfl rfl <| Ja ⟨rfl, rfl⟩⟩, ⟨rfl, ⟨rfl, trivial⟩, fun _ _ _ => Je rfl rfl <| Ja ⟨rfl, rfl⟩⟩, ⟨rfl, ⟨rfl, trivial⟩, fun _ _ _ => Je rfl rfl <| Ja ⟨rfl, rfl⟩⟩, ⟨rfl, trivial, fun _ _ _ => Jk Jq XE3 (hS.rd (i := 0) rfl) rfl rfl o45 rfl <| Ja ⟨rfl, rfl⟩⟩, ⟨rfl, trivial, fun _ hE _ => have hS := hS.grow (hE rfl); Jc XU3 rfl rfl (JH (hS.rd (i := 0) rfl) o45) rfl <| Ja ⟨rfl, Ji _⟩⟩, ⟨rfl, ⟨rfl, trivial⟩, fun _ _ _ => Je rfl rfl <| Ja ⟨rfl, rfl⟩⟩, ⟨rfl, ⟨rfl, trivial⟩, fun _ _ _ => Je rfl rfl <| Ja ⟨rfl, rfl⟩⟩, ⟨rfl, trivial, fun _ _ _ => WL.sub (r := (p - (gi l z32))) rfl rfl (wr o50) rfl <| Ja ⟨rfl, rfl⟩⟩, ⟨rfl, ⟨rfl, trivial⟩, fun _ _ _ => Je rfl rfl <| Ja ⟨rfl, rfl⟩⟩, ⟨rfl, ⟨rfl, trivial⟩, fun _ _ _ => Je rfl rfl <| Ja ⟨rfl, rfl⟩⟩, ⟨rfl, trivial, fun _ _ _ => Jk Jq XE3 (hS.rd (i := 0) rfl) rfl rfl o54 rfl <| Ja ⟨rfl, rfl⟩⟩, ⟨rfl, trivial, fun _ hE _ => have hS := hS.grow (hE rfl); Jc XU3 rfl rfl (JH (hS.rd (i := 0) rfl) o54) rfl <| Ja ⟨rfl, Ji _⟩⟩, ⟨rfl, trivial, fun _ _ _ => WL.mul (r := ((p - (gi l z32)) * (gi x31 z22))) rfl rfl (wr o57) rfl <| Ja ⟨rfl, rfl⟩⟩, ⟨rfl, trivial, fun _ _ _ => WL.add (r := ((gi x31 ((z22 - (l.length : Int)) + z32)) + ((p - (gi l z32)) * (gi x31 z22)))) rfl rfl (wr o59) rfl <| Ja ⟨rfl, rfl⟩⟩, ⟨rfl, ⟨rfl, trivial⟩, fun _ _ _ => Je rfl rfl <| Ja ⟨rfl, rfl⟩⟩, ⟨rfl, trivial, fun _ _ _ => Yd (r := (((gi x31 ((z22 - (l.length : Int)) + z32)) + ((p - (gi l z32)) * (gi x31 z22))).tmod p)) rfl rfl o62 rfl rfl <| Ja ⟨rfl, rfl⟩⟩, trivial⟩
   intro w63 hT; have hS := hS.grow hT; refine Jf 17 (by decide +kernel) rfl ?_; obtain ⟨o64, hv⟩ := hv; refine Jk Jq XE3 (hS.rd (i := 0) rfl) rfl rfl o64 rfl <| Ja <| Jf 18 (by decide +kernel) rfl <| Jz (cs' := is (si x31 ((z22 - (l.length : Int)) + z32) (((gi x31 ((z22 - (l.length : Int)) + z32)) + ((p - (gi l z32)) * (gi x31 z22))).tmod p))) 0 ((z22 - (l.length : Int)) + z32).toNat hS rfl XE3 rfl rfl rfl (Qy (hS.rd (i := 0) rfl) o64) (Qg _ _ _) ?_; intro w65 hS; refine Ja <| Jr (by decide +kernel) <| JG ?_; obtain ⟨o66, hv⟩ := hv; refine WL.add (r := (z32 + (1 : Int))) rfl rfl (wr o66) rfl <| Jd 2 ?_; exact ⟨(si x31 ((z22 - (l.length : Int)) + z32) (((gi x31 ((z22 - (l.length : Int)) + z32)) + ((p - (gi l z32)) * (gi x31 z22))).tmod p), (z32 + (1 : Int))), ⟨rfl, rfl, rfl, rfl, rfl, rfl, rfl, rfl, rfl, trivial⟩, hv.2, rfl, hv.1, hS⟩
  have hv := hv.2 (of_decide_eq_false c36); refine Jy <| Jg 2 ?_; obtain ⟨o67, hv⟩ := hv; refine WL.sub (r := (z22 - (1 : Int))) rfl rfl (wr o67) rfl <| Jd 2 ?_; exact ⟨(x31, (z22 - (1 : Int))), ⟨rfl, rfl, rfl, rfl, rfl, trivial⟩, hv.2, rfl, hv.1, hS⟩
 have hv := hv.2 (of_decide_eq_false c26); refine Jy <| Jg 4 <| WL.len Jq rfl rfl ?_; obtain ⟨o69, hv⟩ := hv; refine Jbt Jq XE3 (hS.rd (i := 0) rfl) rfl rfl o69 rfl (x21.take (l.length : Int).toNat).length (Jfq (hS.rd (i := 0) rfl) o69) <| SL.call hS (Jcn (Jqt (hS.rd (i := 0) rfl) o69) XF133 rfl XN133 (fun wc xc Qc hg hv => Jhk  hv) hv) XF81 rfl XN81 rfl rfl ?_; rintro _ _ w70 ⟨r71, rfl, rfl, hv⟩ hGw70 hS; have hS := hS.n0; refine Jd 3 <| W.ret <| ⟨_, rfl, Fin.nil ?_⟩
 exact ⟨_, hS.ext, (hS.pick [] rfl).rows, Jj (hS.pick [] rfl).rows rfl, ⟨(!r71), rfl, rfl, hv⟩⟩
def QU (Pf : Int) (Mf : Int) (mf : List Int) (Q : Bool -> Prop) : Prop :=
  Zv mf (fun x14 => (((x14.length : Nat) + (1 : Nat) : Int) * 8 <= 140737488355328) /\ (∃ (I36 : Int -> Int -> Prop) (μ37 : Int -> Int -> Nat), I36 (1 : Int) Pf /\ ∀ (z34 : Int) (z35 : Int), (I36 z34 z35 -> ((I64 ((2 : Int) * z34)) /\ (((((2 : Int) * z34) <= Mf) -> (∃ (I44 : Int -> Prop) (μ45 : Int -> Nat), I44 (0 : Int) /\ ∀ (z43 : Int), (I44 z43 -> (((z43 < z35) -> (∃ (x55 : List Int), Zd Pf z34 z43 (fun q => q = x55) /\ (∃ (r65 : Bool), Zc Pf x55 (x14 ++ ([(1 : Int)] : List Int)) (fun q => q = r65) /\ (((r65 = true) -> Q false) /\ (r65 = false -> ((I64 (z43 + (1 : Int))) /\ (I44 (z43 + (1 : Int)) /\ μ45 (z43 + (1 : Int)) < μ45 z43))))))) /\ (¬ (z43 < z35) -> ((I64 (z34 + (1 : Int))) /\ ((I64 (z35 * Pf)) /\ (I36 (z34 + (1 : Int)) (z35 * Pf) /\ μ37 (z34 + (1 : Int)) (z35 * Pf) < μ37 z34 z35)))))))) /\ (¬ (((2 : Int) * z34) <= Mf) -> Q true))))))
theorem Jb2 {w : World} {Q : Bool -> Prop} {Pf : Int} {Mf : Int} {mf : List Int} {Bf : Nat} {Af : Option Addr} {nf kf : Nat} (hf : Rd Bf w 1 Af nf kf (is mf)) (hv : QU Pf Mf mf Q) :
   Calls Try.prog 123 #[.agg #[.int .i64 Pf, .int .i64 Mf, .slice Af nf kf]] w fun e w' => ∃ v Qr, e = .returned v /\ w.grownBy w' none /\ Rows w.heap.size none w' Qr /\ News w.heap.size Qr /\ ∃ (r0 : Bool), v = .bool r0 /\ Qr = [] /\ Q r0 := by
 have hnf := hf.ilen; subst hnf; refine Jo <| Jm (vs := [.agg #[.int .i64 Pf, .int .i64 Mf, .slice Af mf.length kf]]) [2] XF123 rfl rfl rfl rfl ?_; have hS := Js w; unfold QU at hv; refine Jg 2 <| JD (z := 3) (cs := [.int .i64 Pf, .int .i64 Mf, .slice Af mf.length kf]) hS rfl rfl rfl rfl ?_; intro g11 w12 hS; refine Jd 2 <| Jg 2 <| Jh (off := 2) Yc rfl rfl <| Jc Jq rfl rfl (Jb (hS.own (i := 0) rfl) 2 _ rfl) rfl <| SL.call hS (Ja4 (hS.ro hf) hv) XF91 rfl XN91 rfl rfl ?_; rintro _ _ w13 ⟨x14, A15, k16, rfl, rfl, hv⟩ hGw13 hS; have hS := hS.n1; refine JL (vs := is ([(1 : Int)] : List Int)) hS Jq XE3 rfl rfl rfl rfl (JV _) rfl ?_; intro A18 w19 hS; obtain ⟨o21, hv⟩ := hv; refine SL.append (cs := is x14) (cs' := is ([(1 : Int)] : List Int)) 1 ((x14 ++ ([(1 : Int)] : List Int)).length) (is (x14 ++ ([(1 : Int)] : List Int))) hS rfl Jq XE3 (hS.rd (i := 0) rfl) (JV _) rfl rfl (apk o21).1 (apk o21).2 (Y5 (hS.rd (i := 1) rfl) (hS.rd (i := 0) rfl)) (Qh _ _) rfl ?_; intro A22 k23 w24 hS; refine Jd 2 <| Jg 2 <| JO 4 [⟨[], [1], true⟩, ⟨[0], [], false⟩, ⟨[], [], true⟩, ⟨[1], [], true⟩] [[(1, .pointer (some ⟨g11, 0, none⟩))], [], [], []] [(12, .pointer (some ⟨g11, 0, none⟩)), (13, .int .i64 Pf), (4, .int .i64 1), (5, .int .i64 Pf)] Try.mixed (by kernel_rfl) rfl rfl ?_ ?_
 . refine ⟨⟨rfl, ⟨rfl, trivial⟩, fun _ _ _ => Jh (off := 0) J5 rfl rfl <| Ja ⟨rfl, rfl⟩⟩, ⟨rfl, trivial, fun _ hE _ => have hS := hS.grow (hE rfl); Jc XU3 rfl rfl (Jb (hS.own (i := 2) rfl) 0 _ rfl) rfl <| Ja ⟨rfl, Ji _⟩⟩, ⟨rfl, trivial, fun _ _ _ => JX rfl rfl <| Ja ⟨rfl, rfl⟩⟩, ⟨rfl, trivial, fun _ _ _ => JX rfl rfl <| Ja ⟨rfl, rfl⟩⟩, trivial⟩
 intro w29 hT; have hS := hS.grow hT; refine Jr (by decide +kernel) <| W.block ?_; obtain ⟨I36, μ37, hv, hk83⟩ := hv; refine JB (σ := Int × Int) (fun q w1 => match q with | (z34, z35) => I36 z34 z35 /\ St TT w none w1 [.row 3 1 A18 1 1 (is ([(1 : Int)] : List Int)), .row 3 1 A22 ((x14 ++ ([(1 : Int)] : List Int)).length) k23 (is (x14 ++ ([(1 : Int)] : List Int))), .row 24 3 (some ⟨g11, 0, none⟩) 1 1 [.int .i64 Pf, .int .i64 Mf, .slice Af mf.length kf]]) (fun q => match q with | (z34, z35) => [(1, .pointer (some ⟨g11, 0, none⟩)), (2, .bool false), (3, .slice A22 ((x14 ++ ([(1 : Int)] : List Int)).length) k23), (4, .int .i64 z34), (5, .int .i64 z35)]) (fun q => match q with | (z34, z35) => μ37 z34 z35) ((1 : Int), Pf) ⟨hv, hS⟩ ⟨rfl, rfl, rfl, rfl, rfl, trivial⟩ ?_; rintro ⟨z34, z35⟩ w38 ⟨hv, hS⟩; have hv := hk83 z34 z35 hv; refine Jg 4 ?_; obtain ⟨o39, hv⟩ := hv; refine WL.mul (r := ((2 : Int) * z34)) rfl rfl (wr o39) rfl <| Jh (off := 1) Qk rfl rfl <| Jc XU3 rfl rfl (Jb (hS.own (i := 2) rfl) 1 _ rfl) rfl <| Jd 2 <| Jl rfl (fun c40 => ?_) (fun c40 => ?_)
 .have hv := hv.1 (of_decide_eq_true c40); refine Jn <| Jw <| W.block <| Jg 5 <| W.block ?_; obtain ⟨I44, μ45, hv, hk82⟩ := hv; refine JB (σ := Int) (fun z43 w1 => I44 z43 /\ St TT w none w1 [.row 3 1 A18 1 1 (is ([(1 : Int)] : List Int)), .row 3 1 A22 ((x14 ++ ([(1 : Int)] : List Int)).length) k23 (is (x14 ++ ([(1 : Int)] : List Int))), .row 24 3 (some ⟨g11, 0, none⟩) 1 1 [.int .i64 Pf, .int .i64 Mf, .slice Af mf.length kf]]) (fun z43 => [(1, .pointer (some ⟨g11, 0, none⟩)), (2, .bool false), (3, .slice A22 ((x14 ++ ([(1 : Int)] : List Int)).length) k23), (4, .int .i64 z34), (5, .int .i64 z35), (18, .bool (decide (((2 : Int) * z34) <= Mf))), (25, .int .i64 z35), (26, .int .i64 z43)]) (fun z43 => μ45 z43) (0 : Int) ⟨hv, hS⟩ ⟨rfl, rfl, rfl, rfl, rfl, rfl, rfl, rfl, trivial⟩ ?_; rintro z43 w46 ⟨hv, hS⟩; have hv := hk82 z43 hv; refine Jg 5 <| Jl rfl (fun c47 => ?_) (fun c47 => ?_)
  .have hv := hv.1 (of_decide_eq_true c47); refine Jn <| Jw <| W.block <| Jg 6 ?_; obtain ⟨x55, o62, hv⟩ := hv; obtain ⟨r65, o67, hv⟩ := hv; have hS0 := hS; refine QK 9 (fun iA => [false, false, false, false, false, false, true, false, false].getD iA false) (fun _ => none) (fun _ v u => u = v) [⟨[], [1], true⟩, ⟨[0], [], false⟩, ⟨[], [1], true⟩, ⟨[2], [], false⟩, ⟨[], [4], true⟩, ⟨[], [6], true⟩, ⟨[3, 4, 5], [], false⟩, ⟨[], [3], true⟩, ⟨[1, 6, 7], [], false⟩] [[(1, .pointer (some ⟨g11, 0, none⟩))], [], [(1, .pointer (some ⟨g11, 0, none⟩))], [], [(4, .int .i64 z34)], [(6, .int .i64 z43)], [], [(3, .slice A22 ((x14 ++ ([(1 : Int)] : List Int)).length) k23)], []] (fun iQ => [fun v _ => v = .pointer (some ⟨g11, 0, none⟩), fun v _ => v = .int .i64 Pf, fun v _ => v = .pointer (some ⟨g11, 0, none⟩), fun v _ => v = .int .i64 Pf, fun v _ => v = .int .i64 z34, fun v _ => v = .int .i64 z43, fun v wQ => ∃ A56_6 k57_6, v = .slice A56_6 x55.length k57_6 /\ Own 0 wQ 3 1 A56_6 x55.length k57_6 (is x55) /\ (∀ g, bl A56_6 = some g -> w46.heap.size <= g), fun v _ => v = .slice A22 ((x14 ++ ([(1 : Int)] : List Int)).length) k23, fun v _ => v = .bool r65].getD iQ (fun _ _ => True)) (fun _ => vbD) Try.mixed (by kernel_rfl) ?_ (fun _ _ _ _ _ _ _ h => h) (by kernel_rfl) ?_ ?_
   . refine J4 _ ?_; intro VQ hVQ vQ wQ1 wQ2 hQ1 hQ2; simp only [List.mem_cons, List.not_mem_nil, or_false] at hVQ; rcases hVQ with rfl | rfl | rfl | rfl | rfl | rfl | rfl | rfl | rfl
     any_goals exact hQ1
     obtain ⟨A56_6, k57_6, hQe, hO60_6, hN61_6⟩ := hQ1; exact ⟨A56_6, k57_6, hQe, hO60_6.ext hQ2, hN61_6⟩
   . refine ⟨⟨rfl, ⟨rfl, trivial⟩, ?_⟩, ⟨rfl, trivial, ?_⟩, ⟨rfl, ⟨rfl, trivial⟩, ?_⟩, ⟨rfl, trivial, ?_⟩, ⟨rfl, ⟨rfl, trivial⟩, ?_⟩, ⟨rfl, ⟨rfl, trivial⟩, ?_⟩, ⟨rfl, trivial, ?_⟩, ⟨rfl, ⟨rfl, trivial⟩, ?_⟩, ⟨rfl, trivial, ?_⟩, trivial⟩
     .intro w48 hE; intro RR; refine Jh (off := 0) J5 rfl rfl ?_; exact Ja ⟨_, rfl, dnq rfl rfl rfl rfl⟩
     .intro w49 hE; have hE := hE rfl; have hS := hS.grow hE; rintro _ rfl; intro RR; refine Jc XU3 rfl rfl (Jb (hS.own (i := 2) rfl) 0 _ rfl) rfl ?_; exact Ja ⟨_, rfl, dnq (Ji _) rfl rfl rfl⟩
     .intro w50 hE; intro RR; refine Jh (off := 0) J5 rfl rfl ?_; exact Ja ⟨_, rfl, dnq rfl rfl rfl rfl⟩
     .intro w51 hE; have hE := hE rfl; have hS := hS.grow hE; rintro _ rfl; intro RR; refine Jc XU3 rfl rfl (Jb (hS.own (i := 2) rfl) 0 _ rfl) rfl ?_; exact Ja ⟨_, rfl, dnq (Ji _) rfl rfl rfl⟩
     .intro w52 hE; intro RR; refine Je rfl rfl ?_; exact Ja ⟨_, rfl, dnq rfl rfl rfl rfl⟩
     .intro w53 hE; intro RR; refine Je rfl rfl ?_; exact Ja ⟨_, rfl, dnq rfl rfl rfl rfl⟩
     .intro w54 hE; have hE := hE rfl; have hS := hS.grow hE; rintro _ rfl; rintro _ rfl; rintro _ rfl; intro RR; refine WL.call Jlm rfl Jp4 rfl rfl (JS (Jb3  o62)) ?_; rintro _ w59 ⟨_, hGw59, hRww59, hNww59, x55q, A56, k57, rfl, rfl, he⟩; subst he; have hO60 := (hRww59.get (i := 0) rfl).1; have hN61 : ∀ g, bl A56 = some g -> _ <= g := fun g hg => Nat.le_trans hE.size (hNww59.1 g hg); exact Ja ⟨_, rfl, hGw59, ⟨A56, k57, rfl, hO60, hN61⟩, (fun _ => fun g hg => ⟨hNww59.1 g hg, (hO60.bl_ge g hg).2⟩), (fun j h => by cases h)⟩
     .intro w63 hE; intro RR; refine Je rfl rfl ?_; exact Ja ⟨_, rfl, dnq rfl rfl rfl rfl⟩
     intro w64 hE; have hE := hE rfl; have hS := hS.grow hE; rintro _ rfl; rintro _ ⟨A56_6, k57_6, rfl, hO60_6, hN61_6⟩; rintro _ rfl; intro RR; refine WL.call XF128 rfl XN128 rfl rfl (JS (Jjc hO60_6.rd (hS.rd (i := 1) rfl) o67)) ?_; rintro _ w66 ⟨_, hGw66, hRww66, hNww66, r65q, rfl, rfl, he⟩; subst he; exact Ja ⟨_, rfl, dnq hGw66 rfl rfl rfl⟩
   intro vals w68 hT hVs hAp hCp; have hS := hS.grow hT; have hv0 : vals 0 = _ := hVs 0 (by decide); have hv1 : vals 1 = _ := hVs 1 (by decide); have hv2 : vals 2 = _ := hVs 2 (by decide); have hv3 : vals 3 = _ := hVs 3 (by decide); have hv4 : vals 4 = _ := hVs 4 (by decide); have hv5 : vals 5 = _ := hVs 5 (by decide); obtain ⟨A56_6, k57_6, hv6, hO60_6, hN61_6⟩ := hVs 6 (by decide); have hv7 : vals 7 = _ := hVs 7 (by decide); have hv8 : vals 8 = _ := hVs 8 (by decide); show WA _ _ _ _ _ _ _ _ ([(29, vals 0), (30, vals 1), (31, vals 2), (32, vals 3), (33, vals 4), (34, vals 5), (35, vals 6), (36, vals 7), (37, vals 8)] ++ _) _; rw [hv0, hv1, hv2, hv3, hv4, hv5, hv6, hv7, hv8]; refine Jr (by decide +kernel) <| Jl rfl (fun c69 => ?_) (fun c69 => ?_)
   .have hv := hv.1 (c69); refine Jg 4 <| W.ret <| ⟨_, rfl, Fin.nil ?_⟩
    exact ⟨_, hS.ext, (hS.pick [] rfl).rows, Jj (hS.pick [] rfl).rows rfl, ⟨false, rfl, rfl, hv⟩⟩
   have hv := hv.2 (c69); refine Jn <| JG ?_; obtain ⟨o70, hv⟩ := hv; refine WL.add (r := (z43 + (1 : Int))) rfl rfl (wr o70) rfl <| Jd 2 ?_; exact ⟨(z43 + (1 : Int)), ⟨rfl, rfl, rfl, rfl, rfl, rfl, rfl, rfl, trivial⟩, hv.2, rfl, hv.1, hS⟩
  have hv := hv.2 (of_decide_eq_false c47); refine Jy ?_; obtain ⟨o73, hv⟩ := hv; obtain ⟨o78, hv⟩ := hv; refine JO 8 [⟨[], [4], true⟩, ⟨[0], [], true⟩, ⟨[], [5], true⟩, ⟨[], [1], true⟩, ⟨[3], [], false⟩, ⟨[2, 4], [], true⟩, ⟨[1], [], true⟩, ⟨[5], [], true⟩] [[(4, .int .i64 z34)], [], [(5, .int .i64 z35)], [(1, .pointer (some ⟨g11, 0, none⟩))], [], [], [], []] [(19, .int .i64 z34), (20, .int .i64 (z34 + (1 : Int))), (21, .int .i64 z35), (22, .pointer (some ⟨g11, 0, none⟩)), (23, .int .i64 Pf), (24, .int .i64 (z35 * Pf)), (4, .int .i64 (z34 + (1 : Int))), (5, .int .i64 (z35 * Pf))] Try.mixed (by kernel_rfl) rfl rfl ?_ ?_
  . refine ⟨⟨rfl, ⟨rfl, trivial⟩, fun _ _ _ => Je rfl rfl <| Ja ⟨rfl, rfl⟩⟩, ⟨rfl, trivial, fun _ _ _ => WL.add (r := (z34 + (1 : Int))) rfl rfl (wr o73) rfl <| Ja ⟨rfl, rfl⟩⟩, ⟨rfl, ⟨rfl, trivial⟩, fun _ _ _ => Je rfl rfl <| Ja ⟨rfl, rfl⟩⟩, ⟨rfl, ⟨rfl, trivial⟩, fun _ _ _ => Jh (off := 0) J5 rfl rfl <| Ja ⟨rfl, rfl⟩⟩, ⟨rfl, trivial, fun _ hE _ => have hS := hS.grow (hE rfl); Jc XU3 rfl rfl (Jb (hS.own (i := 2) rfl) 0 _ rfl) rfl <| Ja ⟨rfl, Ji _⟩⟩, ⟨rfl, trivial, fun _ _ _ => WL.mul (r := (z35 * Pf)) rfl rfl (wr o78) rfl <| Ja ⟨rfl, rfl⟩⟩, ⟨rfl, trivial, fun _ _ _ => JX rfl rfl <| Ja ⟨rfl, rfl⟩⟩, ⟨rfl, trivial, fun _ _ _ => JX rfl rfl <| Ja ⟨rfl, rfl⟩⟩, trivial⟩
  intro w81 hT; have hS := hS.grow hT; refine Jr (by decide +kernel) ?_; exact ⟨((z34 + (1 : Int)), (z35 * Pf)), ⟨rfl, rfl, rfl, rfl, rfl, trivial⟩, hv.2, rfl, hv.1, hS⟩
 have hv := hv.2 (of_decide_eq_false c40); refine Jy <| Jg 4 <| W.ret <| ⟨_, rfl, Fin.nil ?_⟩
 exact ⟨_, hS.ext, (hS.pick [] rfl).rows, Jj (hS.pick [] rfl).rows rfl, ⟨true, rfl, rfl, hv⟩⟩
def Jdf (Pf : Int) (Mf : Int) (mf : List Int) (Q : Int -> Prop) : Prop :=
  (((256 : Int) < Pf) -> (Q (1 : Int))) /\ (¬ ((256 : Int) < Pf) -> (Z4 Pf (fun r15 => (((!r15) = true) -> (Q (1 : Int))) /\ ((!r15) = false -> (((Mf < (1 : Int)) -> (Q (1 : Int))) /\ (¬ (Mf < (1 : Int)) -> (Zt Pf Mf mf (fun r19 => (((256 : Int) < r19) -> (Q (1 : Int))) /\ (¬ ((256 : Int) < r19) -> (((Mf = (1 : Int)) -> (Jea (decide ((mf.length : Int) = (0 : Int))) (fun r23 => Q r23))) /\ (¬ (Mf = (1 : Int)) -> ((((mf.length : Int) ≠ Mf) -> (Q (1 : Int))) /\ (¬ ((mf.length : Int) ≠ Mf) -> (YK mf (fun xc Qc => Jec xc Pf Mf mf Qc) (fun r26 => ((r26 = true) -> (Q (1 : Int))) /\ (r26 = false -> (QU Pf Mf mf (fun r29 => Jea r29 (fun r31 => Q r31)))))))))))))))))))
theorem Jo1 {w : World} {Q : Int -> Prop} {Pf : Int} {Mf : Int} {mf : List Int} {Bf : Nat} {Af : Option Addr} {nf kf : Nat} (hf : Rd Bf w 1 Af nf kf (is mf)) (hv : Jdf Pf Mf mf Q) :
   Calls Try.prog 111 #[.agg #[.int .i64 Pf, .int .i64 Mf, .slice Af nf kf]] w fun e w' => ∃ v Qr, e = .returned v /\ w.grownBy w' none /\ Rows w.heap.size none w' Qr /\ News w.heap.size Qr /\ ∃ (r0 : Int), v = .int .i64 r0 /\ Qr = [] /\ Q r0 := by
 have hnf := hf.ilen; subst hnf; refine Jo <| Jm (vs := [.agg #[.int .i64 Pf, .int .i64 Mf, .slice Af mf.length kf]]) [2] XF111 rfl rfl rfl rfl ?_; have hS := Js w; unfold Jdf at hv; refine Jg 2 <| JD (z := 3) (cs := [.int .i64 Pf, .int .i64 Mf, .slice Af mf.length kf]) hS rfl rfl rfl rfl ?_; intro g11 w12 hS; refine Jd 2 <| Jg 3 <| Jh (off := 0) J5 rfl rfl <| Jc XU3 rfl rfl (Jb (hS.own (i := 0) rfl) 0 _ rfl) rfl <| Jgo rfl rfl rfl <| Je rfl rfl ?_; by_cases g13 : (256 : Int) < Pf
 .have hv := hv.1 g13; rw [decide_eq_true g13]; refine Jd 16 <| Qe rfl <| Jg 4 <| W.ret <| ⟨_, rfl, Fin.nil ?_⟩
  exact ⟨_, hS.ext, (hS.pick [] rfl).rows, Jj (hS.pick [] rfl).rows rfl, ⟨(1 : Int), rfl, rfl, hv⟩⟩
 have hv := hv.2 g13; rw [decide_eq_false g13]; refine WL.take rfl <| Jh (off := 0) J5 rfl rfl <| WL.take rfl <| Jc XU3 rfl rfl (Jb (hS.own (i := 0) rfl) 0 _ rfl) rfl <| WL.take rfl <| SL.call hS (Jjb  hv) XF120 rfl XN120 rfl rfl ?_; rintro _ _ w14 ⟨r15, rfl, rfl, hv⟩ hGw14 hS; have hS := hS.n0; refine Jd 3 <| Je rfl rfl ?_; rcases g16 : (!r15) with _ | _
 .have hv := hv.2 g16; refine WL.take rfl <| Jh (off := 1) Qk rfl rfl <| WL.take rfl <| Jc XU3 rfl rfl (Jb (hS.own (i := 0) rfl) 1 _ rfl) rfl <| Jd 3 <| Je rfl rfl ?_; by_cases g17 : Mf < (1 : Int)
  .have hv := hv.1 g17; rw [decide_eq_true g17]; refine Jd 5 <| Qe rfl <| Jg 4 <| W.ret <| ⟨_, rfl, Fin.nil ?_⟩
   exact ⟨_, hS.ext, (hS.pick [] rfl).rows, Jj (hS.pick [] rfl).rows rfl, ⟨(1 : Int), rfl, rfl, hv⟩⟩
  have hv := hv.2 g17; rw [decide_eq_false g17]; refine WL.take rfl <| Jp (cs := [.int .i64 Pf, .int .i64 Mf, .slice Af mf.length kf]) J3 Qa rfl rfl (Jb (hS.own (i := 0) rfl)) rfl <| WL.take rfl <| SL.call hS (ZC (hS.ro hf) hv) Je5 rfl Jie rfl rfl ?_; rintro _ _ w18 ⟨r19, rfl, rfl, hv⟩ hGw18 hS; have hS := hS.n0; refine Jd 4 <| Jl rfl (fun c20 => ?_) (fun c20 => ?_)
  .have hv := hv.1 (of_decide_eq_true c20); refine Jg 4 <| W.ret <| ⟨_, rfl, Fin.nil ?_⟩
   exact ⟨_, hS.ext, (hS.pick [] rfl).rows, Jj (hS.pick [] rfl).rows rfl, ⟨(1 : Int), rfl, rfl, hv⟩⟩
  have hv := hv.2 (of_decide_eq_false c20); refine Jn <| Jg 3 <| Jh (off := 1) Qk rfl rfl <| Jc XU3 rfl rfl (Jb (hS.own (i := 0) rfl) 1 _ rfl) rfl <| Jd 2 <| Jl rfl (fun c21 => ?_) (fun c21 => ?_)
  .have hv := hv.1 (of_decide_eq_true c21); refine Jg 2 <| Jh (off := 2) Yc rfl rfl <| Jc Jq rfl rfl (Jb (hS.own (i := 0) rfl) 2 _ rfl) rfl <| WL.len Jq rfl rfl <| Zr rfl rfl rfl <| SL.call hS (Jk1  hv) Jqe rfl XN121 rfl rfl ?_; rintro _ _ w22 ⟨r23, rfl, rfl, hv⟩ hGw22 hS; have hS := hS.n0; refine Jd 2 <| W.ret <| ⟨_, rfl, Fin.nil ?_⟩
   exact ⟨_, hS.ext, (hS.pick [] rfl).rows, Jj (hS.pick [] rfl).rows rfl, ⟨r23, rfl, rfl, hv⟩⟩
  have hv := hv.2 (of_decide_eq_false c21); refine Jn <| Jg 3 <| Jh (off := 2) Yc rfl rfl <| Jc Jq rfl rfl (Jb (hS.own (i := 0) rfl) 2 _ rfl) rfl <| WL.len Jq rfl rfl <| Jh (off := 1) Qk rfl rfl <| Jc XU3 rfl rfl (Jb (hS.own (i := 0) rfl) 1 _ rfl) rfl <| Ye rfl rfl rfl <| Je rfl rfl ?_; by_cases g24 : (mf.length : Int) ≠ Mf
  .have hv := hv.1 g24; rw [decide_eq_true g24]; refine Jd 6 <| Qe rfl <| Jg 4 <| W.ret <| ⟨_, rfl, Fin.nil ?_⟩
   exact ⟨_, hS.ext, (hS.pick [] rfl).rows, Jj (hS.pick [] rfl).rows rfl, ⟨(1 : Int), rfl, rfl, hv⟩⟩
  have hv := hv.2 g24; rw [decide_eq_false g24]; refine WL.take rfl <| Jh (off := 2) Yc rfl rfl <| WL.take rfl <| Jc Jq rfl rfl (Jb (hS.own (i := 0) rfl) 2 _ rfl) rfl <| WL.take rfl <| QO (vs := [.pointer (some ⟨g11, 0, none⟩)]) rfl rfl <| WL.take rfl <| SL.call hS (Jcn (hS.ro hf) XF122 rfl XN122 (fun wc xc Qc hg hv => Jmj ((hS.rd (i := 0) rfl).ext hg) ((hS.ro hf).ext hg) hv) hv) XF81 rfl XN81 rfl rfl ?_; rintro _ _ w25 ⟨r26, rfl, rfl, hv⟩ hGw25 hS; have hS := hS.n0; refine Jd 2 <| Jl rfl (fun c27 => ?_) (fun c27 => ?_)
  .have hv := hv.1 (c27); refine Jg 4 <| W.ret <| ⟨_, rfl, Fin.nil ?_⟩
   exact ⟨_, hS.ext, (hS.pick [] rfl).rows, Jj (hS.pick [] rfl).rows rfl, ⟨(1 : Int), rfl, rfl, hv⟩⟩
  have hv := hv.2 (c27); refine Jn <| Jg 2 <| Jp (cs := [.int .i64 Pf, .int .i64 Mf, .slice Af mf.length kf]) J3 Qa rfl rfl (Jb (hS.own (i := 0) rfl)) rfl <| SL.call hS (Jb2 (hS.ro hf) hv) XF123 rfl XN123 rfl rfl ?_; rintro _ _ w28 ⟨r29, rfl, rfl, hv⟩ hGw28 hS; have hS := hS.n0; refine SL.call hS (Jk1  hv) Jqe rfl XN121 rfl rfl ?_; rintro _ _ w30 ⟨r31, rfl, rfl, hv⟩ hGw30 hS; have hS := hS.n0; refine Jd 2 <| W.ret <| ⟨_, rfl, Fin.nil ?_⟩
  exact ⟨_, hS.ext, (hS.pick [] rfl).rows, Jj (hS.pick [] rfl).rows rfl, ⟨r31, rfl, rfl, hv⟩⟩
 have hv := hv.1 g16; refine Jd 10 <| Qe rfl <| Jg 4 <| W.ret <| ⟨_, rfl, Fin.nil ?_⟩
 exact ⟨_, hS.ext, (hS.pick [] rfl).rows, Jj (hS.pick [] rfl).rows rfl, ⟨(1 : Int), rfl, rfl, hv⟩⟩
def Jaq (Fg : GFv) (Q : Unit -> Prop) : Prop :=
  Q ()
theorem Jhj {w : World} {Q : Unit -> Prop} {Fg : GFv} {ag : Addr} {Bg : Nat} (hgg : GFR Bg w ag Fg) (hv : Jaq Fg Q) :
  Calls Try.prog 124 #[.pointer (some ag)] w fun e w' => ∃ v Qr, e = .returned v /\ w.grownBy w' none /\ Rows w.heap.size none w' Qr /\ News w.heap.size Qr /\ ∃ g : Nat, v = .func (.func 130) #[] #[.pointer (some ⟨g, 0, none⟩)] /\ Qr = [.row 69 1 (some ⟨g, 0, none⟩) 1 1 [.pointer (some ag)]] /\ Q () := by
 have hgg_ := hgg; obtain ⟨Ag_mod, kg_mod, Ag_exp, kg_exp, Ag_log, kg_log, Ag_above, kg_above, hg_c, hg_mod, hg_exp, hg_log, hg_above⟩ := hgg_; refine Jo <| Jm (vs := [.pointer (some ag)]) [2] XF124 rfl rfl rfl rfl ?_; have hS := Js w; unfold Jaq at hv; refine Jg 2 <| JD (z := 1) (cs := [.pointer (some ag)]) hS rfl rfl rfl rfl ?_; intro g11 w12 hS; refine Jd 2 <| Jg 2 <| QO (vs := [.pointer (some ⟨g11, 0, none⟩)]) rfl rfl <| Jd 2 <| W.ret <| ⟨_, rfl, Fin.nil ?_⟩
 exact ⟨_, hS.ext, (hS.pick [0] rfl).rows, Jj (hS.pick [0] rfl).rows rfl, ⟨g11, rfl, rfl, hv⟩⟩
def Jas (l : List Int) (Q : Unit -> Prop) : Prop :=
  Q ()
theorem Jhl {w : World} {Q : Unit -> Prop} {l : List Int} {Bl : Nat} {Al : Option Addr} {nl kl : Nat} (hl : Rd Bl w 1 Al nl kl (is l)) (hv : Jas l Q) :
  Calls Try.prog 135 #[.slice Al nl kl] w fun e w' => ∃ v Qr, e = .returned v /\ w.grownBy w' none /\ Rows w.heap.size none w' Qr /\ News w.heap.size Qr /\ ∃ g : Nat, v = .func (.func 136) #[] #[.pointer (some ⟨g, 0, none⟩)] /\ Qr = [.row 22 1 (some ⟨g, 0, none⟩) 1 1 [.slice Al nl kl]] /\ Q () := by
 have hnl := hl.ilen; subst hnl; refine Jo <| Jm (vs := [.slice Al l.length kl]) [2] XF135 rfl rfl rfl rfl ?_; have hS := Js w; unfold Jas at hv; refine Jg 2 <| JD (z := 1) (cs := [.slice Al l.length kl]) hS rfl rfl rfl rfl ?_; intro g11 w12 hS; refine Jd 2 <| Jg 2 <| QO (vs := [.pointer (some ⟨g11, 0, none⟩)]) rfl rfl <| Jd 2 <| W.ret <| ⟨_, rfl, Fin.nil ?_⟩
 exact ⟨_, hS.ext, (hS.pick [0] rfl).rows, Jj (hS.pick [0] rfl).rows rfl, ⟨g11, rfl, rfl, hv⟩⟩
def Yy (p : Int) (l : List Int) (Q : Int -> Prop) : Prop :=
  Jas l (fun _ => ∃ (I22 : Nat -> Int -> Prop), I22 0 (0 : Int) /\ (∀ i18 : Nat, i18 < l.length -> ∀ (z21 : Int), I22 i18 z21 -> ((I64 (z21 * p)) /\ ((I64 ((z21 * p) + (gi l ((l.length - 1 - i18 : Nat) : Int)))) /\ (I22 (i18 + 1) ((z21 * p) + (gi l ((l.length - 1 - i18 : Nat) : Int))))))) /\ (∀ (z21 : Int), I22 l.length z21 -> Q z21))
theorem Jek {w : World} {Q : Int -> Prop} {p : Int} {l : List Int} {Bl : Nat} {Al : Option Addr} {nl kl : Nat} (hl : Rd Bl w 1 Al nl kl (is l)) (hv : Yy p l Q) :
   Calls Try.prog 132 #[.int .i64 p, .slice Al nl kl] w fun e w' => ∃ v Qr, e = .returned v /\ w.grownBy w' none /\ Rows w.heap.size none w' Qr /\ News w.heap.size Qr /\ ∃ (r0 : Int), v = .int .i64 r0 /\ Qr = [] /\ Q r0 := by
 have hnl := hl.ilen; subst hnl; refine Jo <| Jm (vs := [.int .i64 p, .slice Al l.length kl]) [4] XF132 rfl rfl rfl rfl ?_; have hS := Js w; unfold Yy at hv; refine Jg 2 <| JD (z := 1) (cs := [.int .i64 p]) hS rfl rfl rfl rfl ?_; intro g11 w12 hS; refine Jd 2 <| Jg 2 <| SL.alloc (cs := [.int .i64 0]) hS XE3 rfl rfl ?_; intro g13 w14 hS; refine Jz (cs' := [.int .i64 0]) 0 0 hS rfl XE3 rfl rfl rfl (Qm rfl) rfl ?_; intro w15 hS; refine Ja <| Jg 4 <| SL.call hS (Jhl (hS.ro hl) hv) XF135 rfl XN135 rfl rfl ?_; rintro _ _ w16 ⟨g17, rfl, rfl, hv⟩ hGw16 hS; have hS := hS.n1; refine Ja <| W.block ?_; obtain ⟨I22, hv, hk29, hd30⟩ := hv; refine Jij (σ := Int) (fun i q => match q with | z21 => I22 i z21) (fun z21 => [.row 22 1 (some ⟨g17, 0, none⟩) 1 1 [.slice Al l.length kl], .row 3 1 (some ⟨g13, 0, none⟩) 1 1 [.int .i64 z21], .row 3 1 (some ⟨g11, 0, none⟩) 1 1 [.int .i64 p]]) (fun _ _ => False) (fun vs => [(2, .pointer (some ⟨g11, 0, none⟩)), (4, .int .i64 0), (5, .pointer (some ⟨g13, 0, none⟩)), (7, vs.getD 1 undef)]) (0 : Int) hS hv (fun q => by obtain z21 := q; exact trivial) rfl XF136 rfl XN136 (Jgh (A := Al) (m := l.length) (c := kl) (Rd.m64 (hS.ro hl))) (Below.refl _ _) (fun _ _ _ h => by obtain ⟨_, h, _⟩ := h; rw [h]; rfl) (fun i x => Jrw) (by decide) (fun _ q _ _ hS => by obtain z21 := q; exact ⟨Jb (hS.own (i := 0) rfl) 0 _ rfl, _, _, (hS.ro hl)⟩) ?_ ?_ ?_ ?_
 .intro lq vsq W1q hlq
  match vsq, hlq with
  | [a0, a1], _ =>
    refine Jg 3 ?_; exact ⟨rfl, rfl, ⟨rfl, rfl, rfl, rfl, trivial⟩⟩
 .rintro lq i18 _ z21 w23 hi ⟨vb, rfl, hcell⟩ hI hS; have hvb : vb = (gi l ((l.length - 1 - i18 : Nat) : Int)) := bw_val (hS.ro hl) (by omega) hcell; subst hvb; have hv := hk29 i18 hi z21 hI; refine W.block <| JG <| Jc XU3 rfl rfl (Jb (hS.own (i := 1) rfl) 0 _ rfl) rfl <| Jc XU3 rfl rfl (Jb (hS.own (i := 2) rfl) 0 _ rfl) rfl ?_; obtain ⟨o24, hv⟩ := hv; refine WL.mul (r := (z21 * p)) rfl rfl (wr o24) rfl <| Je rfl rfl ?_; obtain ⟨o25, hv⟩ := hv; refine WL.add (r := ((z21 * p) + (gi l ((l.length - 1 - i18 : Nat) : Int)))) rfl rfl (wr o25) rfl <| Jz (cs' := [.int .i64 ((z21 * p) + (gi l ((l.length - 1 - i18 : Nat) : Int)))]) 1 0 hS rfl XE3 rfl rfl rfl (Qm rfl) rfl ?_; intro w26 hS; refine Ja ?_; exact ⟨((z21 * p) + (gi l ((l.length - 1 - i18 : Nat) : Int))), hv, hS⟩
 .rintro D27 z21 w28 hv hD hS; have hv := hd30 z21 hv; refine Jg 2 <| Jc XU3 rfl rfl (Jb (hS.own (i := 2) rfl) 0 _ rfl) rfl <| Jd 2 <| W.ret ?_; have hS := hS.pick [0] rfl; obtain ⟨hDD27, hS⟩ := hS.taken trivial; refine ⟨_, rfl, Fin.cons hDD27 (Fin.nil ?_)⟩; exact ⟨_, hS.ext, (hS.pick [] rfl).rows, Jj (hS.pick [] rfl).rows rfl, ⟨z21, rfl, rfl, hv⟩⟩
 rintro _ e _ _ _ hv; exact hv.elim
end Go.Proofs.Ytiboieijhehjnaa
set_option linter.unusedSimpArgs false
set_option linter.unusedVariables false
set_option maxRecDepth 4000
set_option maxHeartbeats 4000000
namespace Go.Proofs.Ytiboieijhehjnaa
open Go.RowKit
def Jbh (Pf : Int) (Mf : Int) (mf : List Int) (a : List Int) (Q : List Int -> Prop) : Prop :=
  (I64 (Mf - (1 : Int))) /\ ((0 <= (Mf - (1 : Int)) /\ (Mf - (1 : Int)) < (a.length : Nat)) /\ ((0 <= (1 : Int) /\ (1 : Int) <= (a.length : Nat)) /\ ((0 <= (0 : Int) /\ (0 : Int) < (a.length : Nat)) /\ ((((gi a (Mf - (1 : Int))) = (0 : Int)) -> (Q (si (a.take ((1 : Int).toNat) ++ a.take (min a.length (a.length - ((1 : Int).toNat))) ++ a.drop ((1 : Int).toNat + (min a.length (a.length - ((1 : Int).toNat))))) (0 : Int) (0 : Int)))) /\ (¬ ((gi a (Mf - (1 : Int))) = (0 : Int)) -> (∃ (I26 : List Int -> Int -> Prop) (μ27 : List Int -> Int -> Nat), I26 (si (a.take ((1 : Int).toNat) ++ a.take (min a.length (a.length - ((1 : Int).toNat))) ++ a.drop ((1 : Int).toNat + (min a.length (a.length - ((1 : Int).toNat))))) (0 : Int) (0 : Int)) (0 : Int) /\ ∀ (x24 : List Int) (z25 : Int), (I26 x24 z25 -> (((z25 < (mf.length : Int)) -> ((0 <= z25 /\ z25 < (mf.length : Nat)) /\ ((0 <= z25 /\ z25 < (a.length : Nat)) /\ ((I64 (Pf - (gi mf z25))) /\ ((I64 ((Pf - (gi mf z25)) * (gi a (Mf - (1 : Int))))) /\ ((I64 ((gi x24 z25) + ((Pf - (gi mf z25)) * (gi a (Mf - (1 : Int)))))) /\ ((Pf ≠ 0) /\ ((0 <= z25 /\ z25 < (a.length : Nat)) /\ ((I64 (z25 + (1 : Int))) /\ (I26 (si x24 z25 (((gi x24 z25) + ((Pf - (gi mf z25)) * (gi a (Mf - (1 : Int))))).tmod Pf)) (z25 + (1 : Int)) /\ μ27 (si x24 z25 (((gi x24 z25) + ((Pf - (gi mf z25)) * (gi a (Mf - (1 : Int))))).tmod Pf)) (z25 + (1 : Int)) < μ27 x24 z25)))))))))) /\ (¬ (z25 < (mf.length : Int)) -> Q x24)))))))))
theorem Jmb {w : World} {Q : List Int -> Prop} {Pf : Int} {Mf : Int} {mf : List Int} {a : List Int} {Aa : Option Addr} {na ka : Nat} (ha : Own 0 w 3 1 Aa na ka (is a)) {Bf : Nat} {Af : Option Addr} {nf kf : Nat} (hf : Rd Bf w 1 Af nf kf (is mf)) (hapf : 0 < nf -> ∀ g, bl Aa = some g -> bl Af ≠ some g) (hv : Jbh Pf Mf mf a Q) :
   Calls Try.prog 134 #[.agg #[.int .i64 Pf, .int .i64 Mf, .slice Af nf kf], .slice Aa na ka] w fun e w' => ∃ v cs', e = .returned v /\ w.grownBy w' (bl Aa) /\ Own 0 w' 3 1 Aa na ka cs' /\ ∃ x : List Int, v = .tuple #[] /\ cs' = is x /\ Q x := by
 have hnf := hf.ilen; subst hnf; have hna := ha.rd.ilen; subst hna; refine ZI <| Jm (vs := [.agg #[.int .i64 Pf, .int .i64 Mf, .slice Af mf.length kf], .slice Aa a.length ka]) [] XF134 rfl rfl rfl rfl ?_; have hS := Jce ha; unfold Jbh at hv; refine Jg 2 <| JD (z := 3) (cs := [.int .i64 Pf, .int .i64 Mf, .slice Af mf.length kf]) hS rfl rfl rfl rfl ?_; intro g11 w12 hS; refine Ja <| Jg 3 <| Jh (off := 1) Qk rfl rfl <| Jc XU3 rfl rfl (Jb (hS.own (i := 0) rfl) 1 _ rfl) rfl ?_; obtain ⟨o13, hv⟩ := hv; refine WL.sub (r := (Mf - (1 : Int))) rfl rfl (wr o13) rfl ?_; obtain ⟨o14, hv⟩ := hv; refine Jk Jq XE3 (hS.rd (i := 1) rfl) rfl rfl o14 rfl <| Jc XU3 rfl rfl (JH (hS.rd (i := 1) rfl) o14) rfl <| Jd 2 <| Jg 3 ?_; obtain ⟨o15, hv⟩ := hv; refine Jnk Jq XE3 (hS.rd (i := 1) rfl) rfl rfl o15 rfl <| Je rfl rfl <| Jso (xs := a) (ys := a) 1 ((1 : Int).toNat) hS rfl Jq XE3 (hS.rd (i := 1) rfl) rfl (by omega) rfl rfl rfl ?_; intro w16 hS; refine Ja <| Jg 3 ?_; obtain ⟨o17, hv⟩ := hv; refine Jk Jq XE3 (hS.rd (i := 1) rfl) rfl rfl o17 rfl <| Jz (cs' := is (si (a.take ((1 : Int).toNat) ++ a.take (min a.length (a.length - ((1 : Int).toNat))) ++ a.drop ((1 : Int).toNat + (min a.length (a.length - ((1 : Int).toNat))))) (0 : Int) (0 : Int))) 1 (0 : Int).toNat hS rfl XE3 rfl rfl rfl (Qy (hS.rd (i := 1) rfl) o17) (Qg _ _ _) ?_; intro w18 hS; refine Ja <| Jg 6 <| Jl rfl (fun c19 => ?_) (fun c19 => ?_)
 .have hv := hv.1 (of_decide_eq_true c19); refine W.ret <| ⟨_, rfl, Fin.nil ?_⟩
  exact ⟨_, hS.ext, hS.own (i := 1) rfl, si (a.take ((1 : Int).toNat) ++ a.take (min a.length (a.length - ((1 : Int).toNat))) ++ a.drop ((1 : Int).toNat + (min a.length (a.length - ((1 : Int).toNat))))) (0 : Int) (0 : Int), rfl, rfl, hv⟩
 have hv := hv.2 (of_decide_eq_false c19); refine Jn <| Jg 2 <| Jh (off := 2) Yc rfl rfl <| Jc Jq rfl rfl (Jb (hS.own (i := 0) rfl) 2 _ rfl) rfl <| WL.len Jq rfl rfl <| Jd 2 <| W.block ?_; obtain ⟨I26, μ27, hv, hk56⟩ := hv; refine JB (σ := List Int × Int) (fun q w1 => match q with | (x24, z25) => I26 x24 z25 /\ St TT w (bl Aa) w1 [.row 24 3 (some ⟨g11, 0, none⟩) 1 1 [.int .i64 Pf, .int .i64 Mf, .slice Af mf.length kf], .row 3 1 Aa a.length ka (is x24)]) (fun q => match q with | (x24, z25) => [(1, .slice Aa a.length ka), (2, .pointer (some ⟨g11, 0, none⟩)), (4, .int .i64 (gi a (Mf - (1 : Int)))), (22, .slice Af mf.length kf), (23, .int .i64 (mf.length : Int)), (24, .int .i64 z25)]) (fun q => match q with | (x24, z25) => μ27 x24 z25) (si (a.take ((1 : Int).toNat) ++ a.take (min a.length (a.length - ((1 : Int).toNat))) ++ a.drop ((1 : Int).toNat + (min a.length (a.length - ((1 : Int).toNat))))) (0 : Int) (0 : Int), (0 : Int)) ⟨hv, hS⟩ ⟨rfl, rfl, rfl, rfl, rfl, rfl, trivial⟩ ?_; rintro ⟨x24, z25⟩ w28 ⟨hv, hS⟩; have hv := hk56 x24 z25 hv; refine Jg 5 <| Jl rfl (fun c29 => ?_) (fun c29 => ?_)
 .have hv := hv.1 (of_decide_eq_true c29); refine Jn <| Jw <| W.block <| Jg 3 ?_; obtain ⟨o30, hv⟩ := hv; refine Jk Jq XE3 (hS.rom' hf hapf) rfl rfl o30 rfl <| Jc XU3 rfl rfl (JH (hS.rom' hf hapf) o30) rfl <| Jd 3 ?_; obtain ⟨o36, hv⟩ := hv; obtain ⟨o42, hv⟩ := hv; obtain ⟨o45, hv⟩ := hv; obtain ⟨o47, hv⟩ := hv; obtain ⟨o51, hv⟩ := hv; refine JO 16 [⟨[], [1], true⟩, ⟨[], [5], true⟩, ⟨[], [1], true⟩, ⟨[], [5], true⟩, ⟨[2, 3], [], true⟩, ⟨[4], [], false⟩, ⟨[], [2], true⟩, ⟨[6], [], false⟩, ⟨[], [6], true⟩, ⟨[7, 8], [], true⟩, ⟨[], [4], true⟩, ⟨[9, 10], [], true⟩, ⟨[5, 11], [], true⟩, ⟨[], [2], true⟩, ⟨[13], [], false⟩, ⟨[12, 14], [], true⟩] [[(1, .slice Aa a.length ka)], [(5, .int .i64 z25)], [(1, .slice Aa a.length ka)], [(5, .int .i64 z25)], [], [], [(2, .pointer (some ⟨g11, 0, none⟩))], [], [(6, .int .i64 (gi mf z25))], [], [(4, .int .i64 (gi a (Mf - (1 : Int))))], [], [], [(2, .pointer (some ⟨g11, 0, none⟩))], [], []] [(29, .slice Aa a.length ka), (30, .int .i64 z25), (31, .slice Aa a.length ka), (32, .int .i64 z25), (33, .pointer (some ((JK Aa).add z25.toNat))), (34, .int .i64 (gi x24 z25)), (35, .pointer (some ⟨g11, 0, none⟩)), (36, .int .i64 Pf), (37, .int .i64 (gi mf z25)), (38, .int .i64 (Pf - (gi mf z25))), (39, .int .i64 (gi a (Mf - (1 : Int)))), (40, .int .i64 ((Pf - (gi mf z25)) * (gi a (Mf - (1 : Int))))), (41, .int .i64 ((gi x24 z25) + ((Pf - (gi mf z25)) * (gi a (Mf - (1 : Int)))))), (42, .pointer (some ⟨g11, 0, none⟩)), (43, .int .i64 Pf), (44, .int .i64 (((gi x24 z25) + ((Pf - (gi mf z25)) * (gi a (Mf - (1 : Int))))).tmod Pf))] Try.mixed (by kernel_rfl) rfl rfl ?_ ?_
  .refine ⟨⟨rfl, ⟨rfl, trivial⟩, fun _ _ _ => Je rfl rfl <| Ja ⟨rfl, rfl⟩⟩, ⟨rfl, ⟨rfl, trivial⟩, fun _ _ _ => Je rfl rfl <| Ja ⟨rfl, rfl⟩⟩, ⟨rfl, ⟨rfl, trivial⟩, fun _ _ _ => Je rfl rfl <| Ja ⟨rfl, rfl⟩⟩, ⟨rfl, ⟨rfl, trivial⟩, fun _ _ _ => Je rfl rfl <| Ja ⟨rfl, rfl⟩⟩, ⟨rfl, trivial, fun _ _ _ => Jk Jq XE3 (hS.rd (i := 1) rfl) rfl rfl o36 rfl <| Ja ⟨rfl, rfl⟩⟩, ⟨rfl, trivial, fun _ hE _ => have hS := hS.grow (hE rfl); Jc XU3 rfl rfl (JH (hS.rd (i := 1) rfl) o36) rfl <| Ja ⟨rfl, Ji _⟩⟩, ⟨rfl, ⟨rfl, trivial⟩, fun _ _ _ => Jh (off := 0) J5 rfl rfl <| Ja ⟨rfl, rfl⟩⟩, ⟨rfl, trivial, fun _ hE _ => have hS := hS.grow (hE rfl); Jc XU3 rfl rfl (Jb (hS.own (i := 0) rfl) 0 _ rfl) rfl <| Ja ⟨rfl, Ji _⟩⟩, ⟨rfl, ⟨rfl, trivial⟩, fun _ _ _ => Je rfl rfl <| Ja ⟨rfl, rfl⟩⟩, ⟨rfl, trivial, fun _ _ _ => WL.sub (r := (Pf - (gi mf z25))) rfl rfl (wr o42) rfl <| Ja ⟨rfl, rfl⟩⟩, ⟨rfl, ⟨rfl, trivial⟩, fun _ _ _ => Je rfl rfl <| Ja ⟨rfl, rfl⟩⟩, ⟨rfl, trivial, fun _ _ _ => WL.mul (r := ((Pf - (gi mf z25)) * (gi a (Mf - (1 : Int))))) rfl rfl (wr o45) rfl <| Ja ⟨rfl, rfl⟩⟩, ⟨rfl, trivial, fun _ _ _ => WL.add (r := ((gi x24 z25) + ((Pf - (gi mf z25)) * (gi a (Mf - (1 : Int)))))) rfl rfl (wr o47) rfl <| Ja ⟨rfl, rfl⟩⟩, ⟨rfl, ⟨rfl, trivial⟩, fun _ _ _ => Jh (off := 0) J5 rfl rfl <| Ja ⟨rfl, rfl⟩⟩, ⟨rfl, trivial, fun _ hE _ => have hS := hS.grow (hE rfl); Jc XU3 rfl rfl (Jb (hS.own (i := 0) rfl) 0 _ rfl) rfl <| Ja ⟨rfl, Ji _⟩⟩, ⟨rfl, trivial, fun _ _ _ => Yd (r := (((gi x24 z25) + ((Pf - (gi mf z25)) * (gi a (Mf - (1 : Int))))).tmod Pf)) rfl rfl o51 rfl rfl <| Ja ⟨rfl, rfl⟩⟩, trivial⟩
  intro w52 hT; have hS := hS.grow hT; refine Jf 16 (by decide +kernel) rfl ?_; obtain ⟨o53, hv⟩ := hv; refine Jk Jq XE3 (hS.rd (i := 1) rfl) rfl rfl o53 rfl <| Ja <| Jf 17 (by decide +kernel) rfl <| Jz (cs' := is (si x24 z25 (((gi x24 z25) + ((Pf - (gi mf z25)) * (gi a (Mf - (1 : Int))))).tmod Pf))) 1 z25.toNat hS rfl XE3 rfl rfl rfl (Qy (hS.rd (i := 1) rfl) o53) (Qg _ _ _) ?_; intro w54 hS; refine Ja <| Jr (by decide +kernel) <| JG ?_; obtain ⟨o55, hv⟩ := hv; refine WL.add (r := (z25 + (1 : Int))) rfl rfl (wr o55) rfl <| Jd 2 ?_; exact ⟨(si x24 z25 (((gi x24 z25) + ((Pf - (gi mf z25)) * (gi a (Mf - (1 : Int))))).tmod Pf), (z25 + (1 : Int))), ⟨rfl, rfl, rfl, rfl, rfl, rfl, trivial⟩, hv.2, rfl, hv.1, hS⟩
 have hv := hv.2 (of_decide_eq_false c29); refine Jy <| ⟨_, rfl, Fin.nil ?_⟩
 exact ⟨_, hS.ext, hS.own (i := 1) rfl, x24, rfl, rfl, hv⟩
def Z3 (Pf : Int) (Mf : Int) (mf : List Int) (o : List Int) (a : List Int) (b : List Int) (Q : List Int -> Prop) : Prop :=
  (I64 (Mf - (1 : Int))) /\ (∃ J16 : Int -> Prop, (∃ (I20 : Int -> Prop) (μ21 : Int -> Nat), I20 (Mf - (1 : Int)) /\ ∀ (z19 : Int), (I20 z19 -> ((((0 : Int) < z19) -> ((0 <= z19 /\ z19 < (b.length : Nat)) /\ ((((gi b z19) = (0 : Int)) -> ((I64 (z19 - (1 : Int))) /\ (I20 (z19 - (1 : Int)) /\ μ21 (z19 - (1 : Int)) < μ21 z19))) /\ (¬ ((gi b z19) = (0 : Int)) -> J16 z19)))) /\ (¬ ((0 : Int) < z19) -> J16 z19)))) /\ ∀ (z15 : Int), (J16 z15 -> (∃ (I35 : List Int -> Int -> Prop) (μ36 : List Int -> Int -> Nat), I35 (List.replicate o.length (0 : Int)) z15 /\ ∀ (x33 : List Int) (z34 : Int), (I35 x33 z34 -> ((((0 : Int) <= z34) -> (Jbh Pf Mf mf x33 (fun x40 => ∃ (I47 : List Int -> Int -> Prop) (μ48 : List Int -> Int -> Nat), I47 x40 (0 : Int) /\ ∀ (x45 : List Int) (z46 : Int), (I47 x45 z46 -> (((z46 < (a.length : Int)) -> ((0 <= z46 /\ z46 < (a.length : Nat)) /\ ((0 <= z46 /\ z46 < (o.length : Nat)) /\ ((0 <= z34 /\ z34 < (b.length : Nat)) /\ ((I64 ((gi b z34) * (gi a z46))) /\ ((I64 ((gi x45 z46) + ((gi b z34) * (gi a z46)))) /\ ((Pf ≠ 0) /\ ((0 <= z46 /\ z46 < (o.length : Nat)) /\ ((I64 (z46 + (1 : Int))) /\ (I47 (si x45 z46 (((gi x45 z46) + ((gi b z34) * (gi a z46))).tmod Pf)) (z46 + (1 : Int)) /\ μ48 (si x45 z46 (((gi x45 z46) + ((gi b z34) * (gi a z46))).tmod Pf)) (z46 + (1 : Int)) < μ48 x45 z46)))))))))) /\ (¬ (z46 < (a.length : Int)) -> ((I64 (z34 - (1 : Int))) /\ (I35 x45 (z34 - (1 : Int)) /\ μ36 x45 (z34 - (1 : Int)) < μ36 x33 z34)))))))) /\ (¬ ((0 : Int) <= z34) -> Q x33))))))
theorem Jja {w : World} {Q : List Int -> Prop} {Pf : Int} {Mf : Int} {mf : List Int} {o : List Int} {a : List Int} {b : List Int} {Ao : Option Addr} {no ko : Nat} (ho : Own 0 w 3 1 Ao no ko (is o)) {Bf : Nat} {Af : Option Addr} {nf kf : Nat} (hf : Rd Bf w 1 Af nf kf (is mf)) {Ba : Nat} {Aa : Option Addr} {na ka : Nat} (ha : Rd Ba w 1 Aa na ka (is a)) {Bb : Nat} {Ab : Option Addr} {nb kb : Nat} (hb : Rd Bb w 1 Ab nb kb (is b)) (hapf : 0 < nf -> ∀ g, bl Ao = some g -> bl Af ≠ some g) (hapa : 0 < na -> ∀ g, bl Ao = some g -> bl Aa ≠ some g) (hapb : 0 < nb -> ∀ g, bl Ao = some g -> bl Ab ≠ some g) (hv : Z3 Pf Mf mf o a b Q) :
   Calls Try.prog 131 #[.agg #[.int .i64 Pf, .int .i64 Mf, .slice Af nf kf], .slice Ao no ko, .slice Aa na ka, .slice Ab nb kb] w fun e w' => ∃ v cs', e = .returned v /\ w.grownBy w' (bl Ao) /\ Own 0 w' 3 1 Ao no ko cs' /\ ∃ x : List Int, v = .tuple #[] /\ cs' = is x /\ Q x := by
 have hnf := hf.ilen; subst hnf; have hno := ho.rd.ilen; subst hno; have hna := ha.ilen; subst hna; have hnb := hb.ilen; subst hnb; refine ZI <| Jm (vs := [.agg #[.int .i64 Pf, .int .i64 Mf, .slice Af mf.length kf], .slice Ao o.length ko, .slice Aa a.length ka, .slice Ab b.length kb]) [] XF131 rfl rfl rfl rfl ?_; have hS := Jce ho; unfold Z3 at hv; refine Jg 2 <| JD (z := 3) (cs := [.int .i64 Pf, .int .i64 Mf, .slice Af mf.length kf]) hS rfl rfl rfl rfl ?_; intro g11 w12 hS; refine Ja <| Jg 3 <| Jqq (xs := o) 1 hS rfl Jq XE3 rfl ?_; intro w13 hS; refine Ja <| Jg 2 <| Jh (off := 1) Qk rfl rfl <| Jc XU3 rfl rfl (Jb (hS.own (i := 0) rfl) 1 _ rfl) rfl ?_; obtain ⟨o14, hv⟩ := hv; refine WL.sub (r := (Mf - (1 : Int))) rfl rfl (wr o14) rfl <| Jd 2 <| Jw ?_; obtain ⟨J16, hv, hk80⟩ := hv; refine Qn (σ := Int) (fun z15 w1 => J16 z15 /\ St TT w (bl Ao) w1 [.row 24 3 (some ⟨g11, 0, none⟩) 1 1 [.int .i64 Pf, .int .i64 Mf, .slice Af mf.length kf], .row 3 1 Ao o.length ko (is (List.replicate o.length (0 : Int)))]) (fun z15 => [(1, .slice Ao o.length ko), (2, .slice Aa a.length ka), (3, .slice Ab b.length kb), (4, .pointer (some ⟨g11, 0, none⟩)), (8, .int .i64 z15)]) ?_ ?_
 .refine W.block ?_; obtain ⟨I20, μ21, hv, hk27⟩ := hv; refine JB (σ := Int) (fun z19 w1 => I20 z19 /\ St TT w (bl Ao) w1 [.row 24 3 (some ⟨g11, 0, none⟩) 1 1 [.int .i64 Pf, .int .i64 Mf, .slice Af mf.length kf], .row 3 1 Ao o.length ko (is (List.replicate o.length (0 : Int)))]) (fun z19 => [(1, .slice Ao o.length ko), (2, .slice Aa a.length ka), (3, .slice Ab b.length kb), (4, .pointer (some ⟨g11, 0, none⟩)), (8, .int .i64 z19)]) (fun z19 => μ21 z19) (Mf - (1 : Int)) ⟨hv, hS⟩ ⟨rfl, rfl, rfl, rfl, rfl, trivial⟩ ?_; rintro z19 w22 ⟨hv, hS⟩; have hv := hk27 z19 hv; refine Jg 5 <| Je rfl rfl ?_; by_cases g23 : (0 : Int) < z19
  .have hv := hv.1 g23; rw [decide_eq_true g23]; refine Jd 5 ?_; obtain ⟨o24, hv⟩ := hv; refine Jk Jq XE3 (hS.rom' hb hapb) rfl rfl o24 rfl <| WL.take rfl <| Jc XU3 rfl rfl (JH (hS.rom' hb hapb) o24) rfl <| Jd 4 <| Jl rfl (fun c25 => ?_) (fun c25 => ?_)
   .have hv := hv.1 (of_decide_eq_true c25); refine Jn <| W.block <| Jg 2 ?_; obtain ⟨o26, hv⟩ := hv; refine WL.sub (r := (z19 - (1 : Int))) rfl rfl (wr o26) rfl <| Jd 2 ?_; exact ⟨(z19 - (1 : Int)), ⟨rfl, rfl, rfl, rfl, rfl, trivial⟩, hv.2, rfl, hv.1, hS⟩
   have hv := hv.2 (of_decide_eq_false c25); refine Jy ?_; exact ⟨z19, ⟨rfl, rfl, rfl, rfl, rfl, trivial⟩, rfl, hv, hS⟩
  have hv := hv.2 g23; rw [decide_eq_false g23]; refine Jd 7 <| Qw rfl <| Jy ?_; exact ⟨z19, ⟨rfl, rfl, rfl, rfl, rfl, trivial⟩, rfl, hv, hS⟩
 rintro z15 w28 ⟨hv, hS⟩; have hv := hk80 z15 hv; refine Jg 5 <| W.block ?_; obtain ⟨I35, μ36, hv, hk79⟩ := hv; refine JB (σ := List Int × Int) (fun q w1 => match q with | (x33, z34) => I35 x33 z34 /\ St TT w (bl Ao) w1 [.row 24 3 (some ⟨g11, 0, none⟩) 1 1 [.int .i64 Pf, .int .i64 Mf, .slice Af mf.length kf], .row 3 1 Ao o.length ko (is x33)]) (fun q => match q with | (x33, z34) => [(1, .slice Ao o.length ko), (2, .slice Aa a.length ka), (3, .slice Ab b.length kb), (4, .pointer (some ⟨g11, 0, none⟩)), (9, .int .i64 z34)]) (fun q => match q with | (x33, z34) => μ36 x33 z34) (List.replicate o.length (0 : Int), z15) ⟨hv, hS⟩ ⟨rfl, rfl, rfl, rfl, rfl, trivial⟩ ?_; rintro ⟨x33, z34⟩ w37 ⟨hv, hS⟩; have hv := hk79 x33 z34 hv; refine Jg 6 <| Jl rfl (fun c38 => ?_) (fun c38 => ?_)
 .have hv := hv.1 (of_decide_eq_true c38); refine Jn <| Jw <| W.block <| Jg 2 <| Jp (cs := [.int .i64 Pf, .int .i64 Mf, .slice Af mf.length kf]) J3 Qa rfl rfl (Jb (hS.own (i := 0) rfl)) rfl <| Je rfl rfl <| SL.callm 1 hS rfl (Jmb (hS.own (i := 1) rfl) (hS.rom' hf hapf) (hS.aptRoM (i := 1) rfl hf hapf) hv) XF134 rfl XN134 rfl rfl ?_; rintro _ _ w39 ⟨x40, rfl, rfl, hv⟩ hS; refine Ja <| Jg 3 <| WL.len Jq rfl rfl <| Jd 2 <| W.block ?_; obtain ⟨I47, μ48, hv, hk78⟩ := hv; refine JB (σ := List Int × Int) (fun q w1 => match q with | (x45, z46) => I47 x45 z46 /\ St TT w (bl Ao) w1 [.row 24 3 (some ⟨g11, 0, none⟩) 1 1 [.int .i64 Pf, .int .i64 Mf, .slice Af mf.length kf], .row 3 1 Ao o.length ko (is x45)]) (fun q => match q with | (x45, z46) => [(1, .slice Ao o.length ko), (2, .slice Aa a.length ka), (3, .slice Ab b.length kb), (4, .pointer (some ⟨g11, 0, none⟩)), (9, .int .i64 z34), (29, .bool (decide ((0 : Int) <= z34))), (35, .slice Aa a.length ka), (36, .int .i64 (a.length : Int)), (37, .int .i64 z46)]) (fun q => match q with | (x45, z46) => μ48 x45 z46) (x40, (0 : Int)) ⟨hv, hS⟩ ⟨rfl, rfl, rfl, rfl, rfl, rfl, rfl, rfl, rfl, trivial⟩ ?_; rintro ⟨x45, z46⟩ w49 ⟨hv, hS⟩; have hv := hk78 x45 z46 hv; refine Jg 5 <| Jl rfl (fun c50 => ?_) (fun c50 => ?_)
  .have hv := hv.1 (of_decide_eq_true c50); refine Jn <| Jw <| W.block <| Jg 3 ?_; obtain ⟨o51, hv⟩ := hv; refine Jk Jq XE3 (hS.rom' ha hapa) rfl rfl o51 rfl <| Jc XU3 rfl rfl (JH (hS.rom' ha hapa) o51) rfl <| Jd 3 ?_; obtain ⟨o57, hv⟩ := hv; obtain ⟨o62, hv⟩ := hv; obtain ⟨o66, hv⟩ := hv; obtain ⟨o68, hv⟩ := hv; obtain ⟨o72, hv⟩ := hv; refine JO 16 [⟨[], [1], true⟩, ⟨[], [10], true⟩, ⟨[], [1], true⟩, ⟨[], [10], true⟩, ⟨[2, 3], [], true⟩, ⟨[4], [], false⟩, ⟨[], [3], true⟩, ⟨[], [9], true⟩, ⟨[6, 7], [], true⟩, ⟨[8], [], false⟩, ⟨[], [11], true⟩, ⟨[9, 10], [], true⟩, ⟨[5, 11], [], true⟩, ⟨[], [4], true⟩, ⟨[13], [], false⟩, ⟨[12, 14], [], true⟩] [[(1, .slice Ao o.length ko)], [(10, .int .i64 z46)], [(1, .slice Ao o.length ko)], [(10, .int .i64 z46)], [], [], [(3, .slice Ab b.length kb)], [(9, .int .i64 z34)], [], [], [(11, .int .i64 (gi a z46))], [], [], [(4, .pointer (some ⟨g11, 0, none⟩))], [], []] [(42, .slice Ao o.length ko), (43, .int .i64 z46), (44, .slice Ao o.length ko), (45, .int .i64 z46), (46, .pointer (some ((JK Ao).add z46.toNat))), (47, .int .i64 (gi x45 z46)), (48, .slice Ab b.length kb), (49, .int .i64 z34), (50, .pointer (some ((JK Ab).add z34.toNat))), (51, .int .i64 (gi b z34)), (52, .int .i64 (gi a z46)), (53, .int .i64 ((gi b z34) * (gi a z46))), (54, .int .i64 ((gi x45 z46) + ((gi b z34) * (gi a z46)))), (55, .pointer (some ⟨g11, 0, none⟩)), (56, .int .i64 Pf), (57, .int .i64 (((gi x45 z46) + ((gi b z34) * (gi a z46))).tmod Pf))] Try.mixed (by kernel_rfl) rfl rfl ?_ ?_
   .refine ⟨⟨rfl, ⟨rfl, trivial⟩, fun _ _ _ => Je rfl rfl <| Ja ⟨rfl, rfl⟩⟩, ⟨rfl, ⟨rfl, trivial⟩, fun _ _ _ => Je rfl rfl <| Ja ⟨rfl, rfl⟩⟩, ⟨rfl, ⟨rfl, trivial⟩, fun _ _ _ => Je rfl rfl <| Ja ⟨rfl, rfl⟩⟩, ⟨rfl, ⟨rfl, trivial⟩, fun _ _ _ => Je rfl rfl <| Ja ⟨rfl, rfl⟩⟩, ⟨rfl, trivial, fun _ _ _ => Jk Jq XE3 (hS.rd (i := 1) rfl) rfl rfl o57 rfl <| Ja ⟨rfl, rfl⟩⟩, ⟨rfl, trivial, fun _ hE _ => have hS := hS.grow (hE rfl); Jc XU3 rfl rfl (JH (hS.rd (i := 1) rfl) o57) rfl <| Ja ⟨rfl, Ji _⟩⟩, ⟨rfl, ⟨rfl, trivial⟩, fun _ _ _ => Je rfl rfl <| Ja ⟨rfl, rfl⟩⟩, ⟨rfl, ⟨rfl, trivial⟩, fun _ _ _ => Je rfl rfl <| Ja ⟨rfl, rfl⟩⟩, ⟨rfl, trivial, fun _ _ _ => Jk Jq XE3 (hS.rom' hb hapb) rfl rfl o62 rfl <| Ja ⟨rfl, rfl⟩⟩, ⟨rfl, trivial, fun _ hE _ => have hS := hS.grow (hE rfl); Jc XU3 rfl rfl (JH (hS.rom' hb hapb) o62) rfl <| Ja ⟨rfl, Ji _⟩⟩, ⟨rfl, ⟨rfl, trivial⟩, fun _ _ _ => Je rfl rfl <| Ja ⟨rfl, rfl⟩⟩, ⟨rfl, trivial, fun _ _ _ => WL.mul (r := ((gi b z34) * (gi a z46))) rfl rfl (wr o66) rfl <| Ja ⟨rfl, rfl⟩⟩, ⟨rfl, trivial, fun _ _ _ => WL.add (r := ((gi x45 z46) + ((gi b z34) * (gi a z46)))) rfl rfl (wr o68) rfl <| Ja ⟨rfl, rfl⟩⟩, ⟨rfl, ⟨rfl, trivial⟩, fun _ _ _ => Jh (off := 0) J5 rfl rfl <| Ja ⟨rfl, rfl⟩⟩, ⟨rfl, trivial, fun _ hE _ => have hS := hS.grow (hE rfl); Jc XU3 rfl rfl (Jb (hS.own (i := 0) rfl) 0 _ rfl) rfl <| Ja ⟨rfl, Ji _⟩⟩, ⟨rfl, trivial, fun _ _ _ => Yd (r := (((gi x45 z46) + ((gi b z34) * (gi a z46))).tmod Pf)) rfl rfl o72 rfl rfl <| Ja ⟨rfl, rfl⟩⟩, trivial⟩
   intro w73 hT; have hS := hS.grow hT; refine Jf 16 (by decide +kernel) rfl ?_; obtain ⟨o74, hv⟩ := hv; refine Jk Jq XE3 (hS.rd (i := 1) rfl) rfl rfl o74 rfl <| Ja <| Jf 17 (by decide +kernel) rfl <| Jz (cs' := is (si x45 z46 (((gi x45 z46) + ((gi b z34) * (gi a z46))).tmod Pf))) 1 z46.toNat hS rfl XE3 rfl rfl rfl (Qy (hS.rd (i := 1) rfl) o74) (Qg _ _ _) ?_; intro w75 hS; refine Ja <| Jr (by decide +kernel) <| JG ?_; obtain ⟨o76, hv⟩ := hv; refine WL.add (r := (z46 + (1 : Int))) rfl rfl (wr o76) rfl <| Jd 2 ?_; exact ⟨(si x45 z46 (((gi x45 z46) + ((gi b z34) * (gi a z46))).tmod Pf), (z46 + (1 : Int))), ⟨rfl, rfl, rfl, rfl, rfl, rfl, rfl, rfl, rfl, trivial⟩, hv.2, rfl, hv.1, hS⟩
  have hv := hv.2 (of_decide_eq_false c50); refine Jy <| Jg 2 ?_; obtain ⟨o77, hv⟩ := hv; refine WL.sub (r := (z34 - (1 : Int))) rfl rfl (wr o77) rfl <| Jd 2 ?_; exact ⟨(x45, (z34 - (1 : Int))), ⟨rfl, rfl, rfl, rfl, rfl, trivial⟩, hv.2, rfl, hv.1, hS⟩
 have hv := hv.2 (of_decide_eq_false c38); refine Jy <| ⟨_, rfl, Fin.nil ?_⟩
 exact ⟨_, hS.ext, hS.own (i := 1) rfl, x33, rfl, rfl, hv⟩
def Jbo (Pf : Int) (Mf : Int) (mf : List Int) (x : Int) (Q : List Int -> Prop) : Prop :=
  Zt Pf Mf mf (fun r14 => (0 <= r14 /\ r14 * 8 <= 281474976710656 /\ r14 <= 281474976710656) /\ ((((0 : Nat) + (1 : Nat) : Int) * 8 <= 140737488355328) /\ (∃ (x32 : List Int), Zd Pf Mf x (fun q => q = x32) /\ (∃ (x46 : List Int), Zd Pf Mf x (fun q => q = x46) /\ ((0 <= Mf /\ Mf * 8 <= 281474976710656 /\ Mf <= 281474976710656) /\ (∃ (I119 : List Int -> Int -> List Int -> List Int -> Prop) (μ120 : List Int -> Int -> List Int -> List Int -> Nat), I119 (([] : List Int) ++ ([(1 : Int)] : List Int)) x x46 (List.replicate Mf.toNat (0 : Int)) /\ ∀ (x107 : List Int) (z110 : Int) (x111 : List Int) (x115 : List Int), (I119 x107 z110 x111 x115 -> (((z110 ≠ (1 : Int)) -> ((((x107.length : Nat) + (1 : Nat) : Int) * 8 <= 140737488355328) /\ (Z3 Pf Mf mf x115 x111 x32 (fun x131 => Yy Pf x131 (fun r133 => I119 (x107 ++ ([z110] : List Int)) r133 x131 x111 /\ μ120 (x107 ++ ([z110] : List Int)) r133 x131 x111 < μ120 x107 z110 x111 x115))))) /\ (¬ (z110 ≠ (1 : Int)) -> Q x107)))))))))
theorem Jmi {w : World} {Q : List Int -> Prop} {Pf : Int} {Mf : Int} {mf : List Int} {x : Int} {Bf : Nat} {Af : Option Addr} {nf kf : Nat} (hf : Rd Bf w 1 Af nf kf (is mf)) (hv : Jbo Pf Mf mf x Q) :
   Calls Try.prog 125 #[.agg #[.int .i64 Pf, .int .i64 Mf, .slice Af nf kf], .int .i64 x] w fun e w' => ∃ v Qr, e = .returned v /\ w.grownBy w' none /\ Rows w.heap.size none w' Qr /\ News w.heap.size Qr /\ ∃ (x : List Int)  (A : Option Addr) (c : Nat), v = .slice A x.length c /\ Qr = [.row 3 1 A x.length c (is x)] /\ Q x := by
 have hnf := hf.ilen; subst hnf; refine Jo <| Jm (vs := [.agg #[.int .i64 Pf, .int .i64 Mf, .slice Af mf.length kf], .int .i64 x]) [4] XF125 rfl rfl rfl rfl ?_; have hS := Js w; unfold Jbo at hv; refine Jg 2 <| JD (z := 3) (cs := [.int .i64 Pf, .int .i64 Mf, .slice Af mf.length kf]) hS rfl rfl rfl rfl ?_; intro g11 w12 hS; refine Jd 2 <| Jg 2 <| Jp (cs := [.int .i64 Pf, .int .i64 Mf, .slice Af mf.length kf]) J3 Qa rfl rfl (Jb (hS.own (i := 0) rfl)) rfl <| SL.call hS (ZC (hS.ro hf) hv) Je5 rfl Jie rfl rfl ?_; rintro _ _ w13 ⟨r14, rfl, rfl, hv⟩ hGw13 hS; have hS := hS.n0; obtain ⟨o15, hv⟩ := hv; refine Jqp (J := r14) (cs := is []) hS Jq XE3 rfl rfl o15 rfl rfl ?_; intro A16 w17 hS; refine Jd 2 <| Jg 3 <| JL (vs := is ([(1 : Int)] : List Int)) hS Jq XE3 rfl rfl rfl rfl (JV _) rfl ?_; intro A19 w20 hS; obtain ⟨o22, hv⟩ := hv; refine SL.append (cs := is ([] : List Int)) (cs' := is ([(1 : Int)] : List Int)) 1 ((([] : List Int) ++ ([(1 : Int)] : List Int)).length) (is (([] : List Int) ++ ([(1 : Int)] : List Int))) hS rfl Jq XE3 (hS.rd (i := 0) rfl) (JV _) rfl rfl (apk o22).1 (apk o22).2 (Y5 (hS.rd (i := 1) rfl) (hS.rd (i := 0) rfl)) (Qh _ _) rfl ?_; intro A23 k24 w25 hS; refine Jd 2 <| Jw ?_; obtain ⟨x32, o39, hv⟩ := hv; obtain ⟨x46, o53, hv⟩ := hv; obtain ⟨o57, hv⟩ := hv; have hS0 := hS; refine QK 18 (fun iA => [false, false, false, false, false, true, false, false, false, false, false, true, false, false, true, false, false, false].getD iA false) (fun iC => match iC with | 15 => some 5 | 16 => some 11 | 17 => some 14 | _ => none) (fun _ v u => u = v) [⟨[], [2], true⟩, ⟨[0], [], false⟩, ⟨[], [2], true⟩, ⟨[2], [], false⟩, ⟨[], [1], true⟩, ⟨[1, 3, 4], [], false⟩, ⟨[], [2], true⟩, ⟨[6], [], false⟩, ⟨[], [2], true⟩, ⟨[8], [], false⟩, ⟨[], [1], true⟩, ⟨[7, 9, 10], [], false⟩, ⟨[], [2], true⟩, ⟨[12], [], false⟩, ⟨[13], [], false⟩, ⟨[5], [], true⟩, ⟨[11], [], true⟩, ⟨[14], [], true⟩] [[(2, .pointer (some ⟨g11, 0, none⟩))], [], [(2, .pointer (some ⟨g11, 0, none⟩))], [], [(1, .int .i64 x)], [], [(2, .pointer (some ⟨g11, 0, none⟩))], [], [(2, .pointer (some ⟨g11, 0, none⟩))], [], [(1, .int .i64 x)], [], [(2, .pointer (some ⟨g11, 0, none⟩))], [], [], [], [], []] (fun iQ => [fun v _ => v = .pointer (some ⟨g11, 0, none⟩), fun v _ => v = .int .i64 Pf, fun v _ => v = .pointer (some ((⟨g11, 0, none⟩ : Addr).add 1)), fun v _ => v = .int .i64 Mf, fun v _ => v = .int .i64 x, fun v wQ => ∃ A33_5 k34_5, v = .slice A33_5 x32.length k34_5 /\ Own 0 wQ 3 1 A33_5 x32.length k34_5 (is x32) /\ (∀ g, bl A33_5 = some g -> w25.heap.size <= g), fun v _ => v = .pointer (some ⟨g11, 0, none⟩), fun v _ => v = .int .i64 Pf, fun v _ => v = .pointer (some ((⟨g11, 0, none⟩ : Addr).add 1)), fun v _ => v = .int .i64 Mf, fun v _ => v = .int .i64 x, fun v wQ => ∃ A47_11 k48_11, v = .slice A47_11 x46.length k48_11 /\ Own 0 wQ 3 1 A47_11 x46.length k48_11 (is x46) /\ (∀ g, bl A47_11 = some g -> w25.heap.size <= g), fun v _ => v = .pointer (some ((⟨g11, 0, none⟩ : Addr).add 1)), fun v _ => v = .int .i64 Mf, fun v wQ => ∃ A58_14 k62_14, v = .slice A58_14 Mf.toNat k62_14 /\ Own 0 wQ 3 1 A58_14 Mf.toNat k62_14 (is (List.replicate Mf.toNat (0 : Int))) /\ (∀ g, bl A58_14 = some g -> w25.heap.size <= g), fun v wQ => ∃ A33_5_15 k34_5_15, v = .slice A33_5_15 x32.length k34_5_15 /\ Own 0 wQ 3 1 A33_5_15 x32.length k34_5_15 (is x32) /\ (∀ g, bl A33_5_15 = some g -> w25.heap.size <= g), fun v wQ => ∃ A47_11_16 k48_11_16, v = .slice A47_11_16 x46.length k48_11_16 /\ Own 0 wQ 3 1 A47_11_16 x46.length k48_11_16 (is x46) /\ (∀ g, bl A47_11_16 = some g -> w25.heap.size <= g), fun v wQ => ∃ A58_14_17 k62_14_17, v = .slice A58_14_17 Mf.toNat k62_14_17 /\ Own 0 wQ 3 1 A58_14_17 Mf.toNat k62_14_17 (is (List.replicate Mf.toNat (0 : Int))) /\ (∀ g, bl A58_14_17 = some g -> w25.heap.size <= g)].getD iQ (fun _ _ => True)) (fun _ => vbD) Try.mixed (by kernel_rfl) ?_ (fun _ _ _ _ _ _ _ h => h) (by kernel_rfl) ?_ ?_
 . refine J4 _ ?_; intro VQ hVQ vQ wQ1 wQ2 hQ1 hQ2; simp only [List.mem_cons, List.not_mem_nil, or_false] at hVQ; rcases hVQ with rfl | rfl | rfl | rfl | rfl | rfl | rfl | rfl | rfl | rfl | rfl | rfl | rfl | rfl | rfl | rfl | rfl | rfl
   any_goals exact hQ1
   .obtain ⟨A33_5, k34_5, hQe, hO37_5, hN38_5⟩ := hQ1; exact ⟨A33_5, k34_5, hQe, hO37_5.ext hQ2, hN38_5⟩
   .obtain ⟨A47_11, k48_11, hQe, hO51_11, hN52_11⟩ := hQ1; exact ⟨A47_11, k48_11, hQe, hO51_11.ext hQ2, hN52_11⟩
   .obtain ⟨A58_14, k62_14, hQe, hO60_14, hN61_14⟩ := hQ1; exact ⟨A58_14, k62_14, hQe, hO60_14.ext hQ2, hN61_14⟩
   .obtain ⟨A33_5_15, k34_5_15, hQe, hO37_5_15, hN38_5_15⟩ := hQ1; exact ⟨A33_5_15, k34_5_15, hQe, hO37_5_15.ext hQ2, hN38_5_15⟩
   .obtain ⟨A47_11_16, k48_11_16, hQe, hO51_11_16, hN52_11_16⟩ := hQ1; exact ⟨A47_11_16, k48_11_16, hQe, hO51_11_16.ext hQ2, hN52_11_16⟩
   obtain ⟨A58_14_17, k62_14_17, hQe, hO60_14_17, hN61_14_17⟩ := hQ1; exact ⟨A58_14_17, k62_14_17, hQe, hO60_14_17.ext hQ2, hN61_14_17⟩
 . refine ⟨⟨rfl, ⟨rfl, trivial⟩, ?_⟩, ⟨rfl, trivial, ?_⟩, ⟨rfl, ⟨rfl, trivial⟩, ?_⟩, ⟨rfl, trivial, ?_⟩, ⟨rfl, ⟨rfl, trivial⟩, ?_⟩, ⟨rfl, trivial, ?_⟩, ⟨rfl, ⟨rfl, trivial⟩, ?_⟩, ⟨rfl, trivial, ?_⟩, ⟨rfl, ⟨rfl, trivial⟩, ?_⟩, ⟨rfl, trivial, ?_⟩, ⟨rfl, ⟨rfl, trivial⟩, ?_⟩, ⟨rfl, trivial, ?_⟩, ⟨rfl, ⟨rfl, trivial⟩, ?_⟩, ⟨rfl, trivial, ?_⟩, ⟨rfl, trivial, ?_⟩, ⟨rfl, trivial, ?_⟩, ⟨rfl, trivial, ?_⟩, ⟨rfl, trivial, ?_⟩, trivial⟩
   .intro w26 hE; intro RR; refine Jh (off := 0) J5 rfl rfl ?_; exact Ja ⟨_, rfl, dnq rfl rfl rfl rfl⟩
   .intro w27 hE; have hE := hE rfl; have hS := hS.grow hE; rintro _ rfl; intro RR; refine Jc XU3 rfl rfl (Jb (hS.own (i := 2) rfl) 0 _ rfl) rfl ?_; exact Ja ⟨_, rfl, dnq (Ji _) rfl rfl rfl⟩
   .intro w28 hE; intro RR; refine Jh (off := 1) Qk rfl rfl ?_; exact Ja ⟨_, rfl, dnq rfl rfl rfl rfl⟩
   .intro w29 hE; have hE := hE rfl; have hS := hS.grow hE; rintro _ rfl; intro RR; refine Jc XU3 rfl rfl (Jb (hS.own (i := 2) rfl) 1 _ rfl) rfl ?_; exact Ja ⟨_, rfl, dnq (Ji _) rfl rfl rfl⟩
   .intro w30 hE; intro RR; refine Je rfl rfl ?_; exact Ja ⟨_, rfl, dnq rfl rfl rfl rfl⟩
   .intro w31 hE; have hE := hE rfl; have hS := hS.grow hE; rintro _ rfl; rintro _ rfl; rintro _ rfl; intro RR; refine WL.call Jlm rfl Jp4 rfl rfl (JS (Jb3  o39)) ?_; rintro _ w36 ⟨_, hGw36, hRww36, hNww36, x32q, A33, k34, rfl, rfl, he⟩; subst he; have hO37 := (hRww36.get (i := 0) rfl).1; have hN38 : ∀ g, bl A33 = some g -> _ <= g := fun g hg => Nat.le_trans hE.size (hNww36.1 g hg); exact Ja ⟨_, rfl, hGw36, ⟨A33, k34, rfl, hO37, hN38⟩, (fun _ => fun g hg => ⟨hNww36.1 g hg, (hO37.bl_ge g hg).2⟩), (fun j h => by cases h)⟩
   .intro w40 hE; intro RR; refine Jh (off := 0) J5 rfl rfl ?_; exact Ja ⟨_, rfl, dnq rfl rfl rfl rfl⟩
   .intro w41 hE; have hE := hE rfl; have hS := hS.grow hE; rintro _ rfl; intro RR; refine Jc XU3 rfl rfl (Jb (hS.own (i := 2) rfl) 0 _ rfl) rfl ?_; exact Ja ⟨_, rfl, dnq (Ji _) rfl rfl rfl⟩
   .intro w42 hE; intro RR; refine Jh (off := 1) Qk rfl rfl ?_; exact Ja ⟨_, rfl, dnq rfl rfl rfl rfl⟩
   .intro w43 hE; have hE := hE rfl; have hS := hS.grow hE; rintro _ rfl; intro RR; refine Jc XU3 rfl rfl (Jb (hS.own (i := 2) rfl) 1 _ rfl) rfl ?_; exact Ja ⟨_, rfl, dnq (Ji _) rfl rfl rfl⟩
   .intro w44 hE; intro RR; refine Je rfl rfl ?_; exact Ja ⟨_, rfl, dnq rfl rfl rfl rfl⟩
   .intro w45 hE; have hE := hE rfl; have hS := hS.grow hE; rintro _ rfl; rintro _ rfl; rintro _ rfl; intro RR; refine WL.call Jlm rfl Jp4 rfl rfl (JS (Jb3  o53)) ?_; rintro _ w50 ⟨_, hGw50, hRww50, hNww50, x46q, A47, k48, rfl, rfl, he⟩; subst he; have hO51 := (hRww50.get (i := 0) rfl).1; have hN52 : ∀ g, bl A47 = some g -> _ <= g := fun g hg => Nat.le_trans hE.size (hNww50.1 g hg); exact Ja ⟨_, rfl, hGw50, ⟨A47, k48, rfl, hO51, hN52⟩, (fun _ => fun g hg => ⟨hNww50.1 g hg, (hO51.bl_ge g hg).2⟩), (fun j h => by cases h)⟩
   .intro w54 hE; intro RR; refine Jh (off := 1) Qk rfl rfl ?_; exact Ja ⟨_, rfl, dnq rfl rfl rfl rfl⟩
   .intro w55 hE; have hE := hE rfl; have hS := hS.grow hE; rintro _ rfl; intro RR; refine Jc XU3 rfl rfl (Jb (hS.own (i := 2) rfl) 1 _ rfl) rfl ?_; exact Ja ⟨_, rfl, dnq (Ji _) rfl rfl rfl⟩
   .intro w56 hE; have hE := hE rfl; have hS := hS.grow hE; rintro _ rfl; intro RR; refine Jbu (J := Mf) Jq XE3 rfl rfl o57 (Qv _) rfl ?_; intro A58 k62 w59 hO60 hN61g hGw59; have hN61 : ∀ g, bl A58 = some g -> _ <= g := fun g hg => Nat.le_trans hE.size (hN61g g hg); exact Ja ⟨_, rfl, hGw59, ⟨A58, k62, rfl, hO60, hN61⟩, (fun _ => fun g hg => ⟨hN61g g hg, (hO60.bl_ge g hg).2⟩), (fun j h => by cases h)⟩
   .intro w63 hE; rintro _ ⟨A33_5, k34_5, rfl, hO37_5, hN38_5⟩; intro RR; refine JX rfl rfl ?_; exact Ja ⟨_, rfl, rfl, ⟨A33_5, k34_5, rfl, hO37_5, hN38_5⟩, (fun h => absurd h (by decide)), (fun j h => by cases h; exact ⟨_, rfl, rfl⟩)⟩
   .intro w64 hE; rintro _ ⟨A47_11, k48_11, rfl, hO51_11, hN52_11⟩; intro RR; refine JX rfl rfl ?_; exact Ja ⟨_, rfl, rfl, ⟨A47_11, k48_11, rfl, hO51_11, hN52_11⟩, (fun h => absurd h (by decide)), (fun j h => by cases h; exact ⟨_, rfl, rfl⟩)⟩
   intro w65 hE; rintro _ ⟨A58_14, k62_14, rfl, hO60_14, hN61_14⟩; intro RR; refine JX rfl rfl ?_; exact Ja ⟨_, rfl, rfl, ⟨A58_14, k62_14, rfl, hO60_14, hN61_14⟩, (fun h => absurd h (by decide)), (fun j h => by cases h; exact ⟨_, rfl, rfl⟩)⟩
 intro vals w66 hT hVs hAp hCp; have hS := hS.grow hT; have hv0 : vals 0 = _ := hVs 0 (by decide); have hv1 : vals 1 = _ := hVs 1 (by decide); have hv2 : vals 2 = _ := hVs 2 (by decide); have hv3 : vals 3 = _ := hVs 3 (by decide); have hv4 : vals 4 = _ := hVs 4 (by decide); obtain ⟨A33_5, k34_5, hv5, hO37_5, hN38_5⟩ := hVs 5 (by decide); have hv6 : vals 6 = _ := hVs 6 (by decide); have hv7 : vals 7 = _ := hVs 7 (by decide); have hv8 : vals 8 = _ := hVs 8 (by decide); have hv9 : vals 9 = _ := hVs 9 (by decide); have hv10 : vals 10 = _ := hVs 10 (by decide); obtain ⟨A47_11, k48_11, hv11, hO51_11, hN52_11⟩ := hVs 11 (by decide); have hv12 : vals 12 = _ := hVs 12 (by decide); have hv13 : vals 13 = _ := hVs 13 (by decide); obtain ⟨A58_14, k62_14, hv14, hO60_14, hN61_14⟩ := hVs 14 (by decide); have hv15 : vals 15 = .slice A33_5 x32.length k34_5 := (hCp 15 5 (by decide) rfl).trans hv5; have hv16 : vals 16 = .slice A47_11 x46.length k48_11 := (hCp 16 11 (by decide) rfl).trans hv11; have hv17 : vals 17 = .slice A58_14 Mf.toNat k62_14 := (hCp 17 14 (by decide) rfl).trans hv14; have hS := J0 [] hS0 hS hO37_5 hN38_5 (fun s hs => by cases hs); have hap11_5 : ∀ g, (.row 3 1 A47_11 x46.length k48_11 (is x46) : Rw).at_ g -> ¬ (.row 3 1 A33_5 x32.length k34_5 (is x32) : Rw).at_ g := by have h_ := hAp 11 5 (by decide) (by decide) (by decide) rfl rfl; rw [hv11, hv5] at h_; exact fun g h1 h2 => h_ g h1 h2
 have hS := J0 [.row 3 1 A33_5 x32.length k34_5 (is x32)] hS0 hS hO51_11 hN52_11 (by intro s hs g hg; simp only [List.mem_cons, List.not_mem_nil, or_false] at hs; obtain rfl := hs; exact hap11_5 g hg); have hap14_11 : ∀ g, (.row 3 1 A58_14 Mf.toNat k62_14 (is (List.replicate Mf.toNat (0 : Int))) : Rw).at_ g -> ¬ (.row 3 1 A47_11 x46.length k48_11 (is x46) : Rw).at_ g := by have h_ := hAp 14 11 (by decide) (by decide) (by decide) rfl rfl; rw [hv14, hv11] at h_; exact fun g h1 h2 => h_ g h1 h2
 have hap14_5 : ∀ g, (.row 3 1 A58_14 Mf.toNat k62_14 (is (List.replicate Mf.toNat (0 : Int))) : Rw).at_ g -> ¬ (.row 3 1 A33_5 x32.length k34_5 (is x32) : Rw).at_ g := by have h_ := hAp 14 5 (by decide) (by decide) (by decide) rfl rfl; rw [hv14, hv5] at h_; exact fun g h1 h2 => h_ g h1 h2
 have hS := J0 [.row 3 1 A47_11 x46.length k48_11 (is x46), .row 3 1 A33_5 x32.length k34_5 (is x32)] hS0 hS hO60_14 hN61_14 (by intro s hs g hg; simp only [List.mem_cons, List.not_mem_nil, or_false] at hs; rcases hs with rfl | rfl <;> first | exact hap14_11 g hg | exact hap14_5 g hg); show WA _ _ _ _ _ _ _ _ ([(15, vals 0), (16, vals 1), (17, vals 2), (18, vals 3), (19, vals 4), (20, vals 5), (21, vals 6), (22, vals 7), (23, vals 8), (24, vals 9), (25, vals 10), (26, vals 11), (27, vals 12), (28, vals 13), (29, vals 14), (6, vals 15), (7, vals 16), (8, vals 17)] ++ _) _; rw [hv0, hv1, hv2, hv3, hv4, hv5, hv6, hv7, hv8, hv9, hv10, hv11, hv12, hv13, hv14, hv15, hv16, hv17]; refine Jr (by decide +kernel) <| Jw <| W.block ?_; obtain ⟨I119, μ120, hv, hk134⟩ := hv; have hS := hS.pick [1, 0, 2, 3, 4, 5] rfl; have hm1 : Mf.toNat = (List.replicate Mf.toNat (0 : Int)).length := (hS.rd (i := 1) rfl).ilen.symm; have hS := hS.relen (i := 1) rfl hm1
 change St _ _ _ _ [.row 3 1 A47_11 x46.length k48_11 (is x46), .row 3 1 A58_14 (List.replicate Mf.toNat (0 : Int)).length k62_14 (is (List.replicate Mf.toNat (0 : Int))), .row 3 1 A33_5 x32.length k34_5 (is x32), .row 3 1 A19 1 1 (is ([(1 : Int)] : List Int)), .row 3 1 A23 (([] : List Int) ++ ([(1 : Int)] : List Int)).length k24 (is (([] : List Int) ++ ([(1 : Int)] : List Int))), .row 24 3 (some ⟨g11, 0, none⟩) 1 1 [.int .i64 Pf, .int .i64 Mf, .slice Af mf.length kf]] at hS
 refine JB (σ := List Int × Int × List Int × List Int × Option Addr × Nat × Option Addr × Nat × Option Addr × Nat) (fun q w1 => match q with | (x107, z110, x111, x115, A108, k109, A112, k113, A116, k117) => I119 x107 z110 x111 x115 /\ St TT w none w1 [.row 3 1 A112 x111.length k113 (is x111), .row 3 1 A116 x115.length k117 (is x115), .row 3 1 A33_5 x32.length k34_5 (is x32), .row 3 1 A19 1 1 (is ([(1 : Int)] : List Int)), .row 3 1 A108 x107.length k109 (is x107), .row 24 3 (some ⟨g11, 0, none⟩) 1 1 [.int .i64 Pf, .int .i64 Mf, .slice Af mf.length kf]]) (fun q => match q with | (x107, z110, x111, x115, A108, k109, A112, k113, A116, k117) => [(1, .int .i64 z110), (2, .pointer (some ⟨g11, 0, none⟩)), (4, .slice none 0 0), (5, .slice A108 x107.length k109), (6, .slice A33_5 x32.length k34_5), (7, .slice A112 x111.length k113), (8, .slice A116 x115.length k117)]) (fun q => match q with | (x107, z110, x111, x115, A108, k109, A112, k113, A116, k117) => μ120 x107 z110 x111 x115) (([] : List Int) ++ ([(1 : Int)] : List Int), x, x46, List.replicate Mf.toNat (0 : Int), A23, k24, A47_11, k48_11, A58_14, k62_14) ⟨hv, hS⟩ ⟨rfl, rfl, rfl, rfl, rfl, rfl, (sm (by first | rfl | assumption | omega)), trivial⟩ ?_; rintro ⟨x107, z110, x111, x115, A108, k109, A112, k113, A116, k117⟩ w121 ⟨hv, hS⟩; have hv := hk134 x107 z110 x111 x115 hv; refine Jg 6 <| Jl rfl (fun c122 => ?_) (fun c122 => ?_)
 .have hv := hv.1 (of_decide_eq_true c122); refine Jn <| W.block <| Jg 4 <| JL (vs := is ([z110] : List Int)) hS Jq XE3 rfl rfl rfl rfl (JV _) rfl ?_; intro A123 w124 hS; obtain ⟨o126, hv⟩ := hv; refine SL.append (cs := is x107) (cs' := is ([z110] : List Int)) 5 ((x107 ++ ([z110] : List Int)).length) (is (x107 ++ ([z110] : List Int))) hS rfl Jq XE3 (hS.rd (i := 0) rfl) (JV _) rfl rfl (apk o126).1 (apk o126).2 (Y5 (hS.rd (i := 5) rfl) (hS.rd (i := 0) rfl)) (Qh _ _) rfl ?_; intro A127 k128 w129 hS; refine Jd 2 <| Jg 2 <| Jp (cs := [.int .i64 Pf, .int .i64 Mf, .slice Af mf.length kf]) J3 Qa rfl rfl (Jb (hS.own (i := 6) rfl)) rfl <| Jd 3 <| SL.callm 2 hS rfl (Jja (hS.own (i := 2) rfl) (hS.ro hf) (hS.rd (i := 1) rfl) (hS.rd (i := 3) rfl) (hS.aptRo (i := 2) rfl hf) (hS.aptRow (i := 2) (j := 1) (by decide) rfl rfl) (hS.aptRow (i := 2) (j := 3) (by decide) rfl rfl) hv) XF131 rfl XN131 rfl rfl ?_; rintro _ _ w130 ⟨x131, rfl, rfl, hv⟩ hS; refine Ja <| Jg 8 <| Jh (off := 0) J5 rfl rfl <| Jc XU3 rfl rfl (Jb (hS.own (i := 6) rfl) 0 _ rfl) rfl <| Je rfl rfl <| SL.call hS (Jek (hS.rd (i := 2) rfl) hv) XF132 rfl XN132 rfl rfl ?_; rintro _ _ w132 ⟨r133, rfl, rfl, hv⟩ hGw132 hS; have hS := hS.n0; refine Jd 2 ?_; have hS := hS.pick [2, 1, 3, 4, 5, 6] rfl; have hm0 : x115.length = x131.length := (hS.rd (i := 0) rfl).ilen.symm; have hS := hS.relen (i := 0) rfl hm0
  change St _ _ _ _ [.row 3 1 A116 x131.length k117 (is x131), .row 3 1 A112 x111.length k113 (is x111), .row 3 1 A33_5 x32.length k34_5 (is x32), .row 3 1 A19 1 1 (is ([(1 : Int)] : List Int)), .row 3 1 A127 (x107 ++ ([z110] : List Int)).length k128 (is (x107 ++ ([z110] : List Int))), .row 24 3 (some ⟨g11, 0, none⟩) 1 1 [.int .i64 Pf, .int .i64 Mf, .slice Af mf.length kf]] at hS
  exact ⟨(x107 ++ ([z110] : List Int), r133, x131, x111, A127, k128, A116, k117, A112, k113), ⟨rfl, rfl, rfl, rfl, rfl, (sm (by first | rfl | assumption | omega)), rfl, trivial⟩, hv.2, rfl, hv.1, hS⟩
 have hv := hv.2 (of_decide_eq_false c122); refine Jy <| Jg 5 <| W.ret <| ⟨_, rfl, Fin.nil ?_⟩
 exact ⟨_, hS.ext, (hS.pick [4] rfl).rows, Jj (hS.pick [4] rfl).rows rfl, ⟨x107, A108, k109, rfl, rfl, hv⟩⟩
def Jdc (Fg : GFv) (Q : List Int -> Prop) : Prop :=
  (0 <= Fg.q /\ Fg.q * 1 <= 281474976710656 /\ Fg.q <= 281474976710656) /\ ((0 <= (0 : Int) /\ (0 : Int) < (Fg.q.toNat : Nat)) /\ (Jaq Fg (fun _ => I64 Fg.q /\ ∃ (I42 : Nat -> List Int -> List Bool -> Prop) (J43 : List Int -> List Bool -> Prop), I42 0 ([] : List Int) (sb (List.replicate Fg.q.toNat false) (0 : Int) true) /\ (∀ i26 : Nat, i26 < Fg.q.toNat -> ∀ (x37 : List Int) (x41 : List Bool), I42 i26 x37 x41 -> ((0 <= (i26 : Int) /\ (i26 : Int) < (Fg.q.toNat : Nat)) /\ ((((gb x41 (i26 : Int)) = true) -> (I42 (i26 + 1) x37 x41)) /\ ((gb x41 (i26 : Int)) = false -> (Jbo Fg.P Fg.M Fg.mod (i26 : Int) (fun x48 => (I64 (Fg.q - (1 : Int))) /\ ((((x48.length : Int) = (Fg.q - (1 : Int))) -> J43 x48 x41) /\ (¬ ((x48.length : Int) = (Fg.q - (1 : Int))) -> (∃ (I70 : List Bool -> Int -> Prop) (μ71 : List Bool -> Int -> Nat), I70 x41 (0 : Int) /\ ∀ (x68 : List Bool) (z69 : Int), (I70 x68 z69 -> (((z69 < (x48.length : Int)) -> ((0 <= z69 /\ z69 < (x48.length : Nat)) /\ ((0 <= (gi x48 z69) /\ (gi x48 z69) < (Fg.q.toNat : Nat)) /\ ((I64 (z69 + (1 : Int))) /\ (I70 (sb x68 (gi x48 z69) true) (z69 + (1 : Int)) /\ μ71 (sb x68 (gi x48 z69) true) (z69 + (1 : Int)) < μ71 x68 z69))))) /\ (¬ (z69 < (x48.length : Int)) -> (I42 (i26 + 1) x48 x68))))))))))))) /\ (∀ (x37 : List Int) (x41 : List Bool), I42 Fg.q.toNat x37 x41 -> Q x37) /\ (∀ (x37 : List Int) (x41 : List Bool), J43 x37 x41 -> Q x37))))
theorem Jox {w : World} {Q : List Int -> Prop} {Fg : GFv} {ag : Addr} {Bg : Nat} (hgg : GFR Bg w ag Fg) (hv : Jdc Fg Q) :
   Calls Try.prog 114 #[.pointer (some ag)] w fun e w' => ∃ v Qr, e = .returned v /\ w.grownBy w' none /\ Rows w.heap.size none w' Qr /\ News w.heap.size Qr /\ ∃ (x : List Int)  (A : Option Addr) (c : Nat), v = .slice A x.length c /\ Qr = [.row 3 1 A x.length c (is x)] /\ Q x := by
 have hgg_ := hgg; obtain ⟨Ag_mod, kg_mod, Ag_exp, kg_exp, Ag_log, kg_log, Ag_above, kg_above, hg_c, hg_mod, hg_exp, hg_log, hg_above⟩ := hgg_; refine Jo <| Jm (vs := [.pointer (some ag)]) [2] XF114 rfl rfl rfl rfl ?_; have hS := Js w; unfold Jdc at hv; refine Jg 2 <| JD (z := 1) (cs := [.pointer (some ag)]) hS rfl rfl rfl rfl ?_; intro g11 w12 hS; refine Jd 2 <| Jg 2 <| Jc Jcx rfl rfl (Jb (hS.own (i := 0) rfl) 0 _ rfl) rfl <| JP rfl rfl <| Jh (off := 3) Zp rfl rfl <| Jc XU3 rfl rfl (Rd.at_ (hS.ro hg_c) (j := 3) rfl) rfl ?_; obtain ⟨o13, hv⟩ := hv; refine Qq (J := Fg.q) hS Jd7 XE4 rfl rfl o13 (Jrl _) rfl ?_; intro A14 w15 hS; refine SL.alloc (cs := [.slice none 0 0]) hS XE121 rfl rfl ?_; intro g17 w18 hS; refine Jz (cs' := [.slice A14 Fg.q.toNat Fg.q.toNat]) 0 0 hS rfl XE121 rfl rfl rfl (Qm rfl) rfl ?_; intro w19 hS; refine Ja <| Jg 2 <| Jc Jd7 rfl rfl (Jb (hS.own (i := 0) rfl) 0 _ rfl) rfl ?_; obtain ⟨o20, hv⟩ := hv; refine Jk Jd7 XE4 (hS.rd (i := 1) rfl) rfl rfl o20 rfl <| Jz (cs' := bs (sb (List.replicate Fg.q.toNat false) (0 : Int) true)) 1 (0 : Int).toNat hS rfl XE4 rfl rfl rfl (bs_lt (hS.rd (i := 1) rfl) o20) (Jpu _ _ _) ?_; intro w21 hS; refine Ja <| Jg 2 <| SL.alloc (cs := [.slice none 0 0]) hS Ju rfl rfl ?_; intro g22 w23 hS; refine Ja <| Jg 3 <| Jc Jcx rfl rfl (Jb (hS.own (i := 3) rfl) 0 _ rfl) rfl <| SL.call hS (Jhj (GFR.ext (GFR.norm hgg) hS.ext) hv) XF124 rfl XN124 rfl rfl ?_; rintro _ _ w24 ⟨g25, rfl, rfl, hv⟩ hGw24 hS; have hS := hS.n1; refine Ja <| W.block ?_; obtain ⟨o85, hv⟩ := hv; obtain ⟨I42, J43, hv, hk82, hd83, hx84⟩ := hv; have hS := hS.nil (e := 3) (z := 1); have hm0 : 0 = ([] : List Int).length := (hS.rd (i := 0) rfl).ilen.symm; have hS := hS.relen (i := 0) rfl hm0
 change St _ _ _ _ [.row 3 1 none ([] : List Int).length 0 (is ([] : List Int)), .row 69 1 (some ⟨g25, 0, none⟩) 1 1 [.pointer (some ag)], .row 22 1 (some ⟨g22, 0, none⟩) 1 1 [.slice none ([] : List Int).length 0], .row 121 1 (some ⟨g17, 0, none⟩) 1 1 [.slice A14 Fg.q.toNat Fg.q.toNat], .row 4 1 A14 Fg.q.toNat Fg.q.toNat (bs (sb (List.replicate Fg.q.toNat false) (0 : Int) true)), .row 69 1 (some ⟨g11, 0, none⟩) 1 1 [.pointer (some ag)]] at hS
 refine Jij (σ := List Int × List Bool × Option Addr × Nat) (fun i q => match q with | (x37, x41, A38, k39) => I42 i x37 x41) (fun q => match q with | (x37, x41, A38, k39) => [.row 3 1 A38 x37.length k39 (is x37), .row 69 1 (some ⟨g25, 0, none⟩) 1 1 [.pointer (some ag)], .row 22 1 (some ⟨g22, 0, none⟩) 1 1 [.slice A38 x37.length k39], .row 121 1 (some ⟨g17, 0, none⟩) 1 1 [.slice A14 Fg.q.toNat Fg.q.toNat], .row 4 1 A14 Fg.q.toNat Fg.q.toNat (bs x41), .row 69 1 (some ⟨g11, 0, none⟩) 1 1 [.pointer (some ag)]]) (fun e q => match e, q with | .exit 0, (x37, x41, A38, k39) => J43 x37 x41 | _, _ => False) (fun vs => [(1, .pointer (some ⟨g11, 0, none⟩)), (2, .slice none 0 0), (3, .pointer (some ⟨g17, 0, none⟩)), (4, .pointer (some ⟨g22, 0, none⟩)), (5, vs.getD 0 undef)]) (([] : List Int), sb (List.replicate Fg.q.toNat false) (0 : Int) true, none, 0) hS hv (fun q => by obtain ⟨x37, x41, A38, k39⟩ := q; exact trivial) rfl XF130 rfl XN130 (Jf9 o85 (Jb (hS.own (i := 1) rfl) 0 _ rfl) (Rd.at_ (hS.ro hg_c) (j := 3) rfl)) (Below.refl _ _) (fun _ _ _ h => by rw [h]; rfl) (fun _ _ _ _ _ h _ _ => h) (by decide) (fun _ _ _ _ _ => trivial) ?_ ?_ ?_ ?_
 .intro lq vsq W1q hlq
  match vsq, hlq with
  | [a0], _ =>
    refine Jg 3 ?_; exact ⟨rfl, rfl, ⟨rfl, rfl, rfl, rfl, rfl, trivial⟩⟩
 .rintro lq i26 _ ⟨x37, x41, A38, k39⟩ w44 hi rfl hI hS; have hv := hk82 i26 hi x37 x41 hI; refine W.block <| Jg 3 <| Jc Jd7 rfl rfl (Jb (hS.own (i := 3) rfl) 0 _ rfl) rfl <| Je rfl rfl ?_; obtain ⟨o45, hv⟩ := hv; refine Jk Jd7 XE4 (hS.rd (i := 4) rfl) rfl rfl o45 rfl <| Jc XU4 rfl rfl (Rd.gb (hS.rd (i := 4) rfl) o45) rfl <| Ja <| Jl rfl (fun c46 => ?_) (fun c46 => ?_)
  .have hv := hv.1 (c46); refine Jy ?_; exact ⟨(x37, x41, A38, k39), hv, hS⟩
  have hv := hv.2 (c46); refine Jn <| Jg 2 <| Jc Jcx rfl rfl (Jb (hS.own (i := 5) rfl) 0 _ rfl) rfl <| JP rfl rfl <| Jh (off := 0) Jgm rfl rfl <| Jp (cs := [.int .i64 Fg.P, .int .i64 Fg.M, .slice Ag_mod Fg.mod.length kg_mod]) J3 Qa rfl rfl (Jnu (hS.ro hg_c) 0 rfl) rfl <| Je rfl rfl <| SL.call hS (Jmi (hS.ro hg_mod) hv) XF125 rfl XN125 rfl rfl ?_; rintro _ _ w47 ⟨x48, A49, k50, rfl, rfl, hv⟩ hGw47 hS; have hS := hS.n1; refine Jz (cs' := [.slice A49 x48.length k50]) 3 0 hS rfl Ju rfl rfl rfl (Qm rfl) rfl ?_; intro w52 hS; refine Ja <| Jg 2 ?_; obtain ⟨o60, hv⟩ := hv; refine JO 8 [⟨[], [4], false⟩, ⟨[0], [], true⟩, ⟨[], [1], false⟩, ⟨[2], [], true⟩, ⟨[3], [], true⟩, ⟨[4], [], false⟩, ⟨[5], [], true⟩, ⟨[1, 6], [], true⟩] [[(4, .pointer (some ⟨g22, 0, none⟩))], [], [(1, .pointer (some ⟨g11, 0, none⟩))], [], [], [], [], []] [(28, .slice A49 x48.length k50), (29, .int .i64 (x48.length : Int)), (30, .pointer (some ag)), (31, .pointer (some ag)), (32, .pointer (some (ag.add 3))), (33, .int .i64 Fg.q), (34, .int .i64 (Fg.q - (1 : Int))), (35, .bool (decide ((x48.length : Int) = (Fg.q - (1 : Int)))))] Try.mixed (by kernel_rfl) rfl rfl ?_ ?_
  . refine ⟨⟨rfl, ⟨rfl, trivial⟩, fun _ hE _ => have hS := hS.grow (hE rfl); Jc Jq rfl rfl (Jb (hS.own (i := 3) rfl) 0 _ rfl) rfl <| Ja ⟨rfl, Ji _⟩⟩, ⟨rfl, trivial, fun _ _ _ => WL.len Jq rfl rfl <| Ja ⟨rfl, rfl⟩⟩, ⟨rfl, ⟨rfl, trivial⟩, fun _ hE _ => have hS := hS.grow (hE rfl); Jc Jcx rfl rfl (Jb (hS.own (i := 6) rfl) 0 _ rfl) rfl <| Ja ⟨rfl, Ji _⟩⟩, ⟨rfl, trivial, fun _ _ _ => JP rfl rfl <| Ja ⟨rfl, rfl⟩⟩, ⟨rfl, trivial, fun _ _ _ => Jh (off := 3) Zp rfl rfl <| Ja ⟨rfl, rfl⟩⟩, ⟨rfl, trivial, fun _ hE _ => have hS := hS.grow (hE rfl); Jc XU3 rfl rfl (Rd.at_ (hS.ro hg_c) (j := 3) rfl) rfl <| Ja ⟨rfl, Ji _⟩⟩, ⟨rfl, trivial, fun _ _ _ => WL.sub (r := (Fg.q - (1 : Int))) rfl rfl (wr o60) rfl <| Ja ⟨rfl, rfl⟩⟩, ⟨rfl, trivial, fun _ _ _ => Zr rfl rfl rfl <| Ja ⟨rfl, rfl⟩⟩, trivial⟩
  intro w62 hT; have hS := hS.grow hT; refine Jr (by decide +kernel) <| Jl rfl (fun c63 => ?_) (fun c63 => ?_)
  .have hv := hv.1 (of_decide_eq_true c63); refine Jy ?_; have hS := hS.pick [0, 2, 3, 4, 5, 6] rfl; exact ⟨(x48, x41, A49, k50), rfl, hv, hS⟩
  have hv := hv.2 (of_decide_eq_false c63); refine Jn <| Jg 2 <| Jc Jq rfl rfl (Jb (hS.own (i := 3) rfl) 0 _ rfl) rfl <| WL.len Jq rfl rfl <| Jd 2 <| W.block ?_; obtain ⟨I70, μ71, hv, hk78⟩ := hv; refine JB (σ := List Bool × Int) (fun q w1 => match q with | (x68, z69) => I70 x68 z69 /\ St (KO w44) w none w1 [.row 3 1 A49 x48.length k50 (is x48), .row 3 1 A38 x37.length k39 (is x37), .row 69 1 (some ⟨g25, 0, none⟩) 1 1 [.pointer (some ag)], .row 22 1 (some ⟨g22, 0, none⟩) 1 1 [.slice A49 x48.length k50], .row 121 1 (some ⟨g17, 0, none⟩) 1 1 [.slice A14 Fg.q.toNat Fg.q.toNat], .row 4 1 A14 Fg.q.toNat Fg.q.toNat (bs x68), .row 69 1 (some ⟨g11, 0, none⟩) 1 1 [.pointer (some ag)]]) (fun q => match q with | (x68, z69) => [(1, .pointer (some ⟨g11, 0, none⟩)), (2, .slice none 0 0), (3, .pointer (some ⟨g17, 0, none⟩)), (4, .pointer (some ⟨g22, 0, none⟩)), (5, .int .i64 (i26 : Int)), (21, .bool (gb x41 (i26 : Int))), (35, .bool (decide ((x48.length : Int) = (Fg.q - (1 : Int))))), (36, .slice A49 x48.length k50), (37, .int .i64 (x48.length : Int)), (38, .int .i64 z69)]) (fun q => match q with | (x68, z69) => μ71 x68 z69) (x41, (0 : Int)) ⟨hv, hS⟩ ⟨rfl, rfl, rfl, rfl, rfl, rfl, rfl, rfl, rfl, rfl, trivial⟩ ?_; rintro ⟨x68, z69⟩ w72 ⟨hv, hS⟩; have hv := hk78 x68 z69 hv; refine Jg 5 <| Jl rfl (fun c73 => ?_) (fun c73 => ?_)
  .have hv := hv.1 (of_decide_eq_true c73); refine Jn <| Jw <| W.block <| Jg 2 ?_; obtain ⟨o74, hv⟩ := hv; refine Jk Jq XE3 (hS.rd (i := 0) rfl) rfl rfl o74 rfl <| Jc XU3 rfl rfl (JH (hS.rd (i := 0) rfl) o74) rfl <| Jd 2 <| JG <| Jc Jd7 rfl rfl (Jb (hS.own (i := 4) rfl) 0 _ rfl) rfl <| Je rfl rfl ?_; obtain ⟨o75, hv⟩ := hv; refine Jk Jd7 XE4 (hS.rd (i := 5) rfl) rfl rfl o75 rfl <| Jz (cs' := bs (sb x68 (gi x48 z69) true)) 5 (gi x48 z69).toNat hS rfl XE4 rfl rfl rfl (bs_lt (hS.rd (i := 5) rfl) o75) (Jpu _ _ _) ?_; intro w76 hS; refine Ja <| JG ?_; obtain ⟨o77, hv⟩ := hv; refine WL.add (r := (z69 + (1 : Int))) rfl rfl (wr o77) rfl <| Jd 2 ?_; exact ⟨(sb x68 (gi x48 z69) true, (z69 + (1 : Int))), ⟨rfl, rfl, rfl, rfl, rfl, rfl, rfl, rfl, rfl, rfl, trivial⟩, hv.2, rfl, hv.1, hS⟩
  have hv := hv.2 (of_decide_eq_false c73); refine Jy ?_; have hS := hS.pick [0, 2, 3, 4, 5, 6] rfl; exact ⟨(x48, x68, A49, k50), hv, hS⟩
 .rintro D79 ⟨x37, x41, A38, k39⟩ w80 hv hD hS; have hv := hd83 x37 x41 hv; refine Jg 2 <| Jc Jq rfl rfl (Jb (hS.own (i := 3) rfl) 0 _ rfl) rfl <| Jd 2 <| W.ret ?_; have hS := hS.pick [0, 1] rfl; obtain ⟨hDD79, hS⟩ := hS.taken trivial; refine ⟨_, rfl, Fin.cons hDD79 (Fin.nil ?_)⟩; exact ⟨_, hS.ext, (hS.pick [0] rfl).rows, Jj (hS.pick [0] rfl).rows rfl, ⟨x37, A38, k39, rfl, rfl, hv⟩⟩
 rintro D79 e ⟨x37, x41, A38, k39⟩ w80 he hv hD hS; cases e with
 | exit id =>
   by_cases hid : id = 0
   .subst hid; have hv := hx84 x37 x41 hv; refine Jg 2 <| Jc Jq rfl rfl (Jb (hS.own (i := 3) rfl) 0 _ rfl) rfl <| Jd 2 <| W.ret ?_; have hS := hS.pick [0, 1] rfl; obtain ⟨hDD79, hS⟩ := hS.taken trivial; refine ⟨_, rfl, Fin.cons hDD79 (Fin.nil ?_)⟩; exact ⟨_, hS.ext, (hS.pick [0] rfl).rows, Jj (hS.pick [0] rfl).rows rfl, ⟨x37, A38, k39, rfl, rfl, hv⟩⟩
   exact absurd hv (by simp [hid])
 | ret => exact hv.elim
 | _ => simp [QG] at he
end Go.Proofs.Ytiboieijhehjnaa
