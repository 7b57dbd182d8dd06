/- Contracts of functions of the program, and what they lean on. -/
import Derived.Test.YthfpcebcfjlkmabProg
import Derived.Test.YthfpcebcfjlkmabEntry
import Derived.Test.YthfpcebcfjlkmabPure
import Derived.Test.YthfpcebcfjlkmabVr
set_option linter.unusedVariables false
namespace Go.Proofs.Ythfpcebcfjlkmab
open Go.RowKit
theorem Try.mixed : Try.prog.follows .mixedOrders = true := by kernel_rfl
theorem Try.el43 : Elem Try.prog 43 1 4 (.int .u32 0) := .mk' (by kernel_rfl) rfl (by decide)
theorem Try.el23 : Elem Try.prog 23 1 24 (.slice none 0 0) := .mk' (by kernel_rfl) rfl (by decide)
theorem Try.el4 : Elem Try.prog 4 1 1 (.bool false) := .mk' (by kernel_rfl) rfl (by decide)
theorem Try.el91 : Elem Try.prog 91 2 16 (.agg #[.int .i64 0, .int .i64 0]) := .mk' (by kernel_rfl) rfl (by decide)
theorem Try.agg91 : aggB Try.prog 91 = true := by kernel_rfl
theorem Try.fld91_0 : fldB Try.prog 91 0 0 = true := by kernel_rfl
theorem Try.fla91_0 : fldA Try.prog 91 0 0 = true := by kernel_rfl
theorem Try.fld91_1 : fldB Try.prog 91 1 1 = true := by kernel_rfl
theorem Try.fla91_1 : fldA Try.prog 91 1 1 = true := by kernel_rfl
theorem Try.bld91 : bldP Try.prog 91 [(0, 1), (1, 1)] #[.int .i64 0, .int .i64 0] := ⟨by kernel_rfl, _, Try.underlying91, by kernel_rfl⟩
theorem Try.el31 : Elem Try.prog 31 3 56 (.agg #[.bool false, .slice none 0 0, .slice none 0 0]) := .mk' (by kernel_rfl) rfl (by decide)
theorem Try.agg31 : aggB Try.prog 31 = true := by kernel_rfl
theorem Try.fld31_0 : fldB Try.prog 31 0 0 = true := by kernel_rfl
theorem Try.fla31_0 : fldA Try.prog 31 0 0 = true := by kernel_rfl
theorem Try.fld31_1 : fldB Try.prog 31 1 1 = true := by kernel_rfl
theorem Try.fla31_1 : fldA Try.prog 31 1 1 = true := by kernel_rfl
theorem Try.fld31_2 : fldB Try.prog 31 2 2 = true := by kernel_rfl
theorem Try.fla31_2 : fldA Try.prog 31 2 2 = true := by kernel_rfl
theorem Try.bld31 : bldP Try.prog 31 [(0, 1), (1, 1), (2, 1)] #[.bool false, .slice none 0 0, .slice none 0 0] := ⟨by kernel_rfl, _, Try.underlying31, by kernel_rfl⟩
theorem Try.nm3 : (Try.f3.name == "runtime.NumGoroutine") = false := by kernel_rfl
theorem Try.nm4 : (Try.f4.name == "runtime.NumGoroutine") = false := by kernel_rfl
theorem Try.nm5 : (Try.f5.name == "runtime.NumGoroutine") = false := by kernel_rfl
theorem Try.nm6 : (Try.f6.name == "runtime.NumGoroutine") = false := by kernel_rfl
theorem Try.nm7 : (Try.f7.name == "runtime.NumGoroutine") = false := by kernel_rfl
theorem Try.nm8 : (Try.f8.name == "runtime.NumGoroutine") = false := by kernel_rfl
theorem Try.nm9 : (Try.f9.name == "runtime.NumGoroutine") = false := by kernel_rfl
theorem Try.nm10 : (Try.f10.name == "runtime.NumGoroutine") = false := by kernel_rfl
theorem Try.nm11 : (Try.f11.name == "runtime.NumGoroutine") = false := by kernel_rfl
theorem Try.nm12 : (Try.f12.name == "runtime.NumGoroutine") = false := by kernel_rfl
theorem Try.nm13 : (Try.f13.name == "runtime.NumGoroutine") = false := by kernel_rfl
theorem Try.nm14 : (Try.f14.name == "runtime.NumGoroutine") = false := by kernel_rfl
theorem Try.nm15 : (Try.f15.name == "runtime.NumGoroutine") = false := by kernel_rfl
theorem Try.nm16 : (Try.f16.name == "runtime.NumGoroutine") = false := by kernel_rfl
theorem Try.nm17 : (Try.f17.name == "runtime.NumGoroutine") = false := by kernel_rfl
theorem Try.nm18 : (Try.f18.name == "runtime.NumGoroutine") = false := by kernel_rfl
theorem Try.nm19 : (Try.f19.name == "runtime.NumGoroutine") = false := by kernel_rfl
theorem Try.nm20 : (Try.f20.name == "runtime.NumGoroutine") = false := by kernel_rfl
theorem Try.nm21 : (Try.f21.name == "runtime.NumGoroutine") = false := by kernel_rfl
theorem Try.nm22 : (Try.f22.name == "runtime.NumGoroutine") = false := by kernel_rfl
theorem Try.nm23 : (Try.f23.name == "runtime.NumGoroutine") = false := by kernel_rfl
theorem Try.nm24 : (Try.f24.name == "runtime.NumGoroutine") = false := by kernel_rfl
theorem Try.nm25 : (Try.f25.name == "runtime.NumGoroutine") = false := by kernel_rfl
theorem Try.nm26 : (Try.f26.name == "runtime.NumGoroutine") = false := by kernel_rfl
theorem Try.nm27 : (Try.f27.name == "runtime.NumGoroutine") = false := by kernel_rfl
theorem Try.nm28 : (Try.f28.name == "runtime.NumGoroutine") = false := by kernel_rfl
theorem Try.nm29 : (Try.f29.name == "runtime.NumGoroutine") = false := by kernel_rfl
theorem Try.nm30 : (Try.f30.name == "runtime.NumGoroutine") = false := by kernel_rfl
theorem Try.nm31 : (Try.f31.name == "runtime.NumGoroutine") = false := by kernel_rfl
theorem Try.nm32 : (Try.f32.name == "runtime.NumGoroutine") = false := by kernel_rfl
theorem Try.nm33 : (Try.f33.name == "runtime.NumGoroutine") = false := by kernel_rfl
theorem Try.nm34 : (Try.f34.name == "runtime.NumGoroutine") = false := by kernel_rfl
theorem Try.nm35 : (Try.f35.name == "runtime.NumGoroutine") = false := by kernel_rfl
theorem Try.nm36 : (Try.f36.name == "runtime.NumGoroutine") = false := by kernel_rfl
theorem Try.nm37 : (Try.f37.name == "runtime.NumGoroutine") = false := by kernel_rfl
theorem Try.nm38 : (Try.f38.name == "runtime.NumGoroutine") = false := by kernel_rfl
theorem Try.nm39 : (Try.f39.name == "runtime.NumGoroutine") = false := by kernel_rfl
theorem Try.nm40 : (Try.f40.name == "runtime.NumGoroutine") = false := by kernel_rfl
theorem Try.nm41 : (Try.f41.name == "runtime.NumGoroutine") = false := by kernel_rfl
theorem Try.nm42 : (Try.f42.name == "runtime.NumGoroutine") = false := by kernel_rfl
theorem Try.nm43 : (Try.f43.name == "runtime.NumGoroutine") = false := by kernel_rfl
theorem Try.nm44 : (Try.f44.name == "runtime.NumGoroutine") = false := by kernel_rfl
theorem Try.nm45 : (Try.f45.name == "runtime.NumGoroutine") = false := by kernel_rfl
theorem Try.nm46 : (Try.f46.name == "runtime.NumGoroutine") = false := by kernel_rfl
theorem Try.nm47 : (Try.f47.name == "runtime.NumGoroutine") = false := by kernel_rfl
theorem Try.nm48 : (Try.f48.name == "runtime.NumGoroutine") = false := by kernel_rfl
theorem Try.nm49 : (Try.f49.name == "runtime.NumGoroutine") = false := by kernel_rfl
theorem Try.nm50 : (Try.f50.name == "runtime.NumGoroutine") = false := by kernel_rfl
theorem Try.nm51 : (Try.f51.name == "runtime.NumGoroutine") = false := by kernel_rfl
theorem Try.nm52 : (Try.f52.name == "runtime.NumGoroutine") = false := by kernel_rfl
theorem Try.nm53 : (Try.f53.name == "runtime.NumGoroutine") = false := by kernel_rfl
theorem Try.nm54 : (Try.f54.name == "runtime.NumGoroutine") = false := by kernel_rfl
theorem Try.nm55 : (Try.f55.name == "runtime.NumGoroutine") = false := by kernel_rfl
theorem Try.nm56 : (Try.f56.name == "runtime.NumGoroutine") = false := by kernel_rfl
theorem Try.nm57 : (Try.f57.name == "runtime.NumGoroutine") = false := by kernel_rfl
theorem Try.nm58 : (Try.f58.name == "runtime.NumGoroutine") = false := by kernel_rfl
theorem Try.nm59 : (Try.f59.name == "runtime.NumGoroutine") = false := by kernel_rfl
theorem Try.nm60 : (Try.f60.name == "runtime.NumGoroutine") = false := by kernel_rfl
theorem Try.nm61 : (Try.f61.name == "runtime.NumGoroutine") = false := by kernel_rfl
theorem Try.nm62 : (Try.f62.name == "runtime.NumGoroutine") = false := by kernel_rfl
theorem Try.nm63 : (Try.f63.name == "runtime.NumGoroutine") = false := by kernel_rfl
theorem Try.nm64 : (Try.f64.name == "runtime.NumGoroutine") = false := by kernel_rfl
theorem Try.nm65 : (Try.f65.name == "runtime.NumGoroutine") = false := by kernel_rfl
theorem Try.nm66 : (Try.f66.name == "runtime.NumGoroutine") = false := by kernel_rfl
theorem Try.nm67 : (Try.f67.name == "runtime.NumGoroutine") = false := by kernel_rfl
theorem Try.nm68 : (Try.f68.name == "runtime.NumGoroutine") = false := by kernel_rfl
theorem Try.nm69 : (Try.f69.name == "runtime.NumGoroutine") = false := by kernel_rfl
theorem Try.nm70 : (Try.f70.name == "runtime.NumGoroutine") = false := by kernel_rfl
theorem Try.nm71 : (Try.f71.name == "runtime.NumGoroutine") = false := by kernel_rfl
theorem Try.nm72 : (Try.f72.name == "runtime.NumGoroutine") = false := by kernel_rfl
theorem Try.nm73 : (Try.f73.name == "runtime.NumGoroutine") = false := by kernel_rfl
theorem Try.nm74 : (Try.f74.name == "runtime.NumGoroutine") = false := by kernel_rfl
theorem Try.nm75 : (Try.f75.name == "runtime.NumGoroutine") = false := by kernel_rfl
theorem Try.nm76 : (Try.f76.name == "runtime.NumGoroutine") = false := by kernel_rfl
theorem Try.nm77 : (Try.f77.name == "runtime.NumGoroutine") = false := by kernel_rfl
theorem Try.nm78 : (Try.f78.name == "runtime.NumGoroutine") = false := by kernel_rfl
theorem Try.nm79 : (Try.f79.name == "runtime.NumGoroutine") = false := by kernel_rfl
theorem Try.nm80 : (Try.f80.name == "runtime.NumGoroutine") = false := by kernel_rfl
theorem Try.nm81 : (Try.f81.name == "runtime.NumGoroutine") = false := by kernel_rfl
theorem Try.nm82 : (Try.f82.name == "runtime.NumGoroutine") = false := by kernel_rfl
theorem Try.nm83 : (Try.f83.name == "runtime.NumGoroutine") = false := by kernel_rfl
theorem Try.nm84 : (Try.f84.name == "runtime.NumGoroutine") = false := by kernel_rfl
theorem Try.nm85 : (Try.f85.name == "runtime.NumGoroutine") = false := by kernel_rfl
theorem Try.nm86 : (Try.f86.name == "runtime.NumGoroutine") = false := by kernel_rfl
theorem Try.nm87 : (Try.f87.name == "runtime.NumGoroutine") = false := by kernel_rfl
theorem Try.nm88 : (Try.f88.name == "runtime.NumGoroutine") = false := by kernel_rfl
theorem Try.nm89 : (Try.f89.name == "runtime.NumGoroutine") = false := by kernel_rfl
theorem Try.nm90 : (Try.f90.name == "runtime.NumGoroutine") = false := by kernel_rfl
theorem Try.nm91 : (Try.f91.name == "runtime.NumGoroutine") = false := by kernel_rfl
theorem Try.nm92 : (Try.f92.name == "runtime.NumGoroutine") = false := by kernel_rfl
theorem Try.nm93 : (Try.f93.name == "runtime.NumGoroutine") = false := by kernel_rfl
theorem Try.nm94 : (Try.f94.name == "runtime.NumGoroutine") = false := by kernel_rfl
theorem Try.nm95 : (Try.f95.name == "runtime.NumGoroutine") = false := by kernel_rfl
theorem Try.nm96 : (Try.f96.name == "runtime.NumGoroutine") = false := by kernel_rfl
theorem Try.nm97 : (Try.f97.name == "runtime.NumGoroutine") = false := by kernel_rfl
theorem Try.nm98 : (Try.f98.name == "runtime.NumGoroutine") = false := by kernel_rfl
theorem Try.nm99 : (Try.f99.name == "runtime.NumGoroutine") = false := by kernel_rfl
theorem Try.nm100 : (Try.f100.name == "runtime.NumGoroutine") = false := by kernel_rfl
theorem Try.nm101 : (Try.f101.name == "runtime.NumGoroutine") = false := by kernel_rfl
theorem Try.nm102 : (Try.f102.name == "runtime.NumGoroutine") = false := by kernel_rfl
theorem Try.nm103 : (Try.f103.name == "runtime.NumGoroutine") = false := by kernel_rfl
theorem Try.nm104 : (Try.f104.name == "runtime.NumGoroutine") = false := by kernel_rfl
theorem Try.nm105 : (Try.f105.name == "runtime.NumGoroutine") = false := by kernel_rfl
theorem Try.nm106 : (Try.f106.name == "runtime.NumGoroutine") = false := by kernel_rfl
theorem Try.nm107 : (Try.f107.name == "runtime.NumGoroutine") = false := by kernel_rfl
theorem Try.nm108 : (Try.f108.name == "runtime.NumGoroutine") = false := by kernel_rfl
theorem Try.nm109 : (Try.f109.name == "runtime.NumGoroutine") = false := by kernel_rfl
theorem Try.nm110 : (Try.f110.name == "runtime.NumGoroutine") = false := by kernel_rfl
theorem Try.nm111 : (Try.f111.name == "runtime.NumGoroutine") = false := by kernel_rfl
theorem Try.nm112 : (Try.f112.name == "runtime.NumGoroutine") = false := by kernel_rfl
theorem Try.nm113 : (Try.f113.name == "runtime.NumGoroutine") = false := by kernel_rfl
theorem Try.nm114 : (Try.f114.name == "runtime.NumGoroutine") = false := by kernel_rfl
theorem Try.nm115 : (Try.f115.name == "runtime.NumGoroutine") = false := by kernel_rfl
theorem Try.nm116 : (Try.f116.name == "runtime.NumGoroutine") = false := by kernel_rfl
theorem Try.nm117 : (Try.f117.name == "runtime.NumGoroutine") = false := by kernel_rfl
theorem Try.nm118 : (Try.f118.name == "runtime.NumGoroutine") = false := by kernel_rfl
theorem Try.nm119 : (Try.f119.name == "runtime.NumGoroutine") = false := by kernel_rfl
theorem Try.nm120 : (Try.f120.name == "runtime.NumGoroutine") = false := by kernel_rfl
theorem Try.nm121 : (Try.f121.name == "runtime.NumGoroutine") = false := by kernel_rfl
theorem Try.nm122 : (Try.f122.name == "runtime.NumGoroutine") = false := by kernel_rfl
theorem Try.nm123 : (Try.f123.name == "runtime.NumGoroutine") = false := by kernel_rfl
theorem Try.nm124 : (Try.f124.name == "runtime.NumGoroutine") = false := by kernel_rfl
theorem Try.nm125 : (Try.f125.name == "runtime.NumGoroutine") = false := by kernel_rfl
theorem Try.nm126 : (Try.f126.name == "runtime.NumGoroutine") = false := by kernel_rfl
end Go.Proofs.Ythfpcebcfjlkmab
