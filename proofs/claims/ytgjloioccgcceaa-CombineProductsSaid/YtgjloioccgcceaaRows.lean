/-
  No cell of these rows narrows 'for every input' (looked for: loops, veiled, ifaces, maps, wideKeys, modest, calm, conditions, laid).
  DERIVED. THE GIVEN ROWS OF THIS SEAT. 5 by the template 'for every input the law returns true; each argument reads behind the call as it read before'; 0 by the template 'total and deterministic' (their statements: YtgjloioccgcceaaTotals.lean).
  GIVEN WITH THE SEED: the statements are not yours to turn. If you find one false, say at which input.
  Laid BY PROGRAM, IN A SANDBOX (cutbox-rows.mjs): the forced cells as the released guide's own fill.sh prints them over the translation 3c801f9f2d953ae1… (all of the seat's roots in one cut). By AI agents, Wed Nov 11 2026. No macro, syntax, notation, axiom, sorry.
-/
import Derived.Test.YtgjloioccgcceaaChecked
import GoSem.Claim
import GoSem.ClaimJoined
import GoSem.ClaimMapViews
import Derived.JoinedTies
import Derived.KernelRfl
namespace Go.Proofs.Ytgjloioccgcceaa
/- THE CELL 'sum', in the pinned program and in every row, IS THE sha256 OF THE DUMP (.gsa) THAT YtgjloioccgcceaaProg.lean LOADS. Nothing in Lean hashes anything: it is a label: what it is worth is what the hold of that sum in a sandbox is worth. -/
noncomputable def Try.pinned : Pinned := { name := "ytgjloioccgcceaa", sum := "3c801f9f2d953ae1bf8a240118cb6f27aa022ecf3537e98240501388decf57d8", checked := Try.checked }
namespace Rows
def none {H : Type} : Left H := { results := [], args := [] }

/-- 'codewrightlaw14.CombineJuxtaposes': WHATEVER THE INPUT: true; the input reads as it did. -/
def combineJuxtaposesSpec : ChangeSpec := { name := "combineJuxtaposes", fn := fun _ => fun
  | [d1, d2] => { results := [.lit (.bool true)], args := [d1, d2] }
  | _ => none }
def combineJuxtaposesRow : OpenClaim := { program := "ytgjloioccgcceaa", sum := "3c801f9f2d953ae1bf8a240118cb6f27aa022ecf3537e98240501388decf57d8", func := "codewright/codewrightlaw14.CombineJuxtaposes", spec := "combineJuxtaposes", unfollowed := true, recurses := true, apart := false }
def CombineJuxtaposesSaid : Prop := combineJuxtaposesRow.holds Try.pinned (OpenSpec.ofChange combineJuxtaposesSpec)

/-- ITS FALSE NEIGHBOUR: 'it returns false'. Refute it at one input. -/
def combineJuxtaposesWrong : ChangeSpec := { name := "combineJuxtaposes", fn := fun _ => fun
  | [d1, d2] => { results := [.lit (.bool false)], args := [d1, d2] }
  | _ => none }
def CombineJuxtaposesWrongFalsely : Prop := combineJuxtaposesRow.holds Try.pinned (OpenSpec.ofChange combineJuxtaposesWrong)

/-- 'codewrightlaw14.CombineProducts': WHATEVER THE INPUT: true; the input reads as it did. -/
def combineProductsSpec : ChangeSpec := { name := "combineProducts", fn := fun _ => fun
  | [d1, d2] => { results := [.lit (.bool true)], args := [d1, d2] }
  | _ => none }
def combineProductsRow : OpenClaim := { program := "ytgjloioccgcceaa", sum := "3c801f9f2d953ae1bf8a240118cb6f27aa022ecf3537e98240501388decf57d8", func := "codewright/codewrightlaw14.CombineProducts", spec := "combineProducts", unfollowed := true, recurses := true, apart := false }
def CombineProductsSaid : Prop := combineProductsRow.holds Try.pinned (OpenSpec.ofChange combineProductsSpec)

/-- ITS FALSE NEIGHBOUR: 'it returns false'. Refute it at one input. -/
def combineProductsWrong : ChangeSpec := { name := "combineProducts", fn := fun _ => fun
  | [d1, d2] => { results := [.lit (.bool false)], args := [d1, d2] }
  | _ => none }
def CombineProductsWrongFalsely : Prop := combineProductsRow.holds Try.pinned (OpenSpec.ofChange combineProductsWrong)

/-- 'codewrightlaw14.CombineInterleaves': WHATEVER THE INPUT: true; the input reads as it did. -/
def combineInterleavesSpec : ChangeSpec := { name := "combineInterleaves", fn := fun _ => fun
  | [d1, d2] => { results := [.lit (.bool true)], args := [d1, d2] }
  | _ => none }
def combineInterleavesRow : OpenClaim := { program := "ytgjloioccgcceaa", sum := "3c801f9f2d953ae1bf8a240118cb6f27aa022ecf3537e98240501388decf57d8", func := "codewright/codewrightlaw14.CombineInterleaves", spec := "combineInterleaves", unfollowed := true, recurses := true, apart := false }
def CombineInterleavesSaid : Prop := combineInterleavesRow.holds Try.pinned (OpenSpec.ofChange combineInterleavesSpec)

/-- ITS FALSE NEIGHBOUR: 'it returns false'. Refute it at one input. -/
def combineInterleavesWrong : ChangeSpec := { name := "combineInterleaves", fn := fun _ => fun
  | [d1, d2] => { results := [.lit (.bool false)], args := [d1, d2] }
  | _ => none }
def CombineInterleavesWrongFalsely : Prop := combineInterleavesRow.holds Try.pinned (OpenSpec.ofChange combineInterleavesWrong)

/-- 'codewrightlaw14.CombineArrays': WHATEVER THE INPUT: true; the input reads as it did. -/
def combineArraysSpec : ChangeSpec := { name := "combineArrays", fn := fun _ => fun
  | [d1, d2, d3] => { results := [.lit (.bool true)], args := [d1, d2, d3] }
  | _ => none }
def combineArraysRow : OpenClaim := { program := "ytgjloioccgcceaa", sum := "3c801f9f2d953ae1bf8a240118cb6f27aa022ecf3537e98240501388decf57d8", func := "codewright/codewrightlaw14.CombineArrays", spec := "combineArrays", unfollowed := true, recurses := true, apart := false }
def CombineArraysSaid : Prop := combineArraysRow.holds Try.pinned (OpenSpec.ofChange combineArraysSpec)

/-- ITS FALSE NEIGHBOUR: 'it returns false'. Refute it at one input. -/
def combineArraysWrong : ChangeSpec := { name := "combineArrays", fn := fun _ => fun
  | [d1, d2, d3] => { results := [.lit (.bool false)], args := [d1, d2, d3] }
  | _ => none }
def CombineArraysWrongFalsely : Prop := combineArraysRow.holds Try.pinned (OpenSpec.ofChange combineArraysWrong)

/-- 'codewrightlaw14.CombineAssociates': WHATEVER THE INPUT: true; the input reads as it did. -/
def combineAssociatesSpec : ChangeSpec := { name := "combineAssociates", fn := fun _ => fun
  | [d1, d2, d3] => { results := [.lit (.bool true)], args := [d1, d2, d3] }
  | _ => none }
def combineAssociatesRow : OpenClaim := { program := "ytgjloioccgcceaa", sum := "3c801f9f2d953ae1bf8a240118cb6f27aa022ecf3537e98240501388decf57d8", func := "codewright/codewrightlaw14.CombineAssociates", spec := "combineAssociates", unfollowed := true, recurses := true, apart := false }
def CombineAssociatesSaid : Prop := combineAssociatesRow.holds Try.pinned (OpenSpec.ofChange combineAssociatesSpec)

/-- ITS FALSE NEIGHBOUR: 'it returns false'. Refute it at one input. -/
def combineAssociatesWrong : ChangeSpec := { name := "combineAssociates", fn := fun _ => fun
  | [d1, d2, d3] => { results := [.lit (.bool false)], args := [d1, d2, d3] }
  | _ => none }
def CombineAssociatesWrongFalsely : Prop := combineAssociatesRow.holds Try.pinned (OpenSpec.ofChange combineAssociatesWrong)

/- THE SECOND FORM. 'bulk': how many values and letters a reading holds, each counted each time it is reached (what is shared counts as often as it is met; a slice's spare places count too). A statement '..UptoSaid' is the law's where the arguments, and the package variables that the reading takes, are together of bulk at most 1048576: NARROWER than '..Said'. Prove '..Said' where nothing that the law and all that it calls make is longer than what came in: it says more and counts as full. Else prove '..UptoSaid'. A law counts once. -/
mutual
def uptoBulk {H : Type} : DataW H → Nat
  | .lit (.string bytes) => bytes.length + 1
  | .lit _ => 1
  | .nil => 1
  | .ptr d => uptoBulk d + 1
  | .slice elems spare => uptoBulkAll elems + uptoBulkAll spare + 1
  | .agg parts => uptoBulkAll parts + 1
  | .iface _ d => uptoBulk d + 1
  | .map entries => uptoBulkEntries entries + 1
  | .held _ => 1
def uptoBulkAll {H : Type} : List (DataW H) → Nat
  | [] => 0
  | d :: r => uptoBulk d + uptoBulkAll r
def uptoBulkEntries {H : Type} : List (Lit × DataW H) → Nat
  | [] => 0
  | x :: r => uptoBulkEntry x + uptoBulkEntries r
def uptoBulkEntry {H : Type} : Lit × DataW H → Nat
  | (.string bytes, d) => bytes.length + uptoBulk d + 1
  | (_, d) => uptoBulk d + 1
 end
def uptoSmall : (H : Type) → List (DataW H) → Bool := fun _ ds => decide (uptoBulkAll ds ≤ 1048576)
def OpenSpec.upto (s : _root_.Go.ChangeSpec) : _root_.Go.OpenSpec := { _root_.Go.OpenSpec.ofChange s with cond := some uptoSmall }

/-- 'codewrightlaw14.CombineJuxtaposes', WHERE WHAT IT READS IS OF BULK AT MOST 1048576: true; the input reads as it did. -/
def combineJuxtaposesUptoRow : OpenClaim := { program := "ytgjloioccgcceaa", sum := "3c801f9f2d953ae1bf8a240118cb6f27aa022ecf3537e98240501388decf57d8", func := "codewright/codewrightlaw14.CombineJuxtaposes", spec := "combineJuxtaposes", unfollowed := true, recurses := true, apart := false, narrowed := true }
def CombineJuxtaposesUptoSaid : Prop := combineJuxtaposesUptoRow.holds Try.pinned (OpenSpec.upto combineJuxtaposesSpec)

/-- 'codewrightlaw14.CombineProducts', WHERE WHAT IT READS IS OF BULK AT MOST 1048576: true; the input reads as it did. -/
def combineProductsUptoRow : OpenClaim := { program := "ytgjloioccgcceaa", sum := "3c801f9f2d953ae1bf8a240118cb6f27aa022ecf3537e98240501388decf57d8", func := "codewright/codewrightlaw14.CombineProducts", spec := "combineProducts", unfollowed := true, recurses := true, apart := false, narrowed := true }
def CombineProductsUptoSaid : Prop := combineProductsUptoRow.holds Try.pinned (OpenSpec.upto combineProductsSpec)

/-- 'codewrightlaw14.CombineInterleaves', WHERE WHAT IT READS IS OF BULK AT MOST 1048576: true; the input reads as it did. -/
def combineInterleavesUptoRow : OpenClaim := { program := "ytgjloioccgcceaa", sum := "3c801f9f2d953ae1bf8a240118cb6f27aa022ecf3537e98240501388decf57d8", func := "codewright/codewrightlaw14.CombineInterleaves", spec := "combineInterleaves", unfollowed := true, recurses := true, apart := false, narrowed := true }
def CombineInterleavesUptoSaid : Prop := combineInterleavesUptoRow.holds Try.pinned (OpenSpec.upto combineInterleavesSpec)

/-- 'codewrightlaw14.CombineArrays', WHERE WHAT IT READS IS OF BULK AT MOST 1048576: true; the input reads as it did. -/
def combineArraysUptoRow : OpenClaim := { program := "ytgjloioccgcceaa", sum := "3c801f9f2d953ae1bf8a240118cb6f27aa022ecf3537e98240501388decf57d8", func := "codewright/codewrightlaw14.CombineArrays", spec := "combineArrays", unfollowed := true, recurses := true, apart := false, narrowed := true }
def CombineArraysUptoSaid : Prop := combineArraysUptoRow.holds Try.pinned (OpenSpec.upto combineArraysSpec)

/-- 'codewrightlaw14.CombineAssociates', WHERE WHAT IT READS IS OF BULK AT MOST 1048576: true; the input reads as it did. -/
def combineAssociatesUptoRow : OpenClaim := { program := "ytgjloioccgcceaa", sum := "3c801f9f2d953ae1bf8a240118cb6f27aa022ecf3537e98240501388decf57d8", func := "codewright/codewrightlaw14.CombineAssociates", spec := "combineAssociates", unfollowed := true, recurses := true, apart := false, narrowed := true }
def CombineAssociatesUptoSaid : Prop := combineAssociatesUptoRow.holds Try.pinned (OpenSpec.upto combineAssociatesSpec)

end Rows
end Go.Proofs.Ytgjloioccgcceaa
