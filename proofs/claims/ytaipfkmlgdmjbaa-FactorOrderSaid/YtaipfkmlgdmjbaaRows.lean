/-
  No cell of these rows narrows 'for every input' (looked for: loops, veiled, ifaces, maps, wideKeys, modest, calm, conditions, laid).
  DERIVED. THE GIVEN ROWS OF THIS SEAT. 4 by the template 'for every input the law returns true; each argument reads behind the call as it read before'; 0 by the template 'total and deterministic' (their statements: YtaipfkmlgdmjbaaTotals.lean).
  GIVEN WITH THE SEED: the statements are not yours to turn. If you find one false, say at which input.
  Laid BY PROGRAM, IN A SANDBOX (cutbox-rows.mjs): the forced cells as the released guide's own fill.sh prints them over the translation 32db79d5777cf6b3… (all of the seat's roots in one cut). By AI agents, Wed Nov 11 2026. No macro, syntax, notation, axiom, sorry.
-/
import Derived.Test.YtaipfkmlgdmjbaaChecked
import GoSem.Claim
import GoSem.ClaimJoined
import GoSem.ClaimMapViews
import Derived.JoinedTies
import Derived.KernelRfl
namespace Go.Proofs.Ytaipfkmlgdmjbaa
/- THE CELL 'sum', in the pinned program and in every row, IS THE sha256 OF THE DUMP (.gsa) THAT YtaipfkmlgdmjbaaProg.lean LOADS. Nothing in Lean hashes anything: it is a label: what it is worth is what the hold of that sum in a sandbox is worth. -/
noncomputable def Try.pinned : Pinned := { name := "ytaipfkmlgdmjbaa", sum := "32db79d5777cf6b33281222b4ec99f1cb69cb68869c53460a8d545baac7d0c31", checked := Try.checked }
namespace Rows
def none {H : Type} : Left H := { results := [], args := [] }

/-- 'codewrightlaw06.FactorProducts': WHATEVER THE INPUT: true; the input reads as it did. -/
def factorProductsSpec : ChangeSpec := { name := "factorProducts", fn := fun _ => fun
  | [d] => { results := [.lit (.bool true)], args := [d] }
  | _ => none }
def factorProductsRow : OpenClaim := { program := "ytaipfkmlgdmjbaa", sum := "32db79d5777cf6b33281222b4ec99f1cb69cb68869c53460a8d545baac7d0c31", func := "codewright/codewrightlaw06.FactorProducts", spec := "factorProducts", unfollowed := true, recurses := true, apart := false }
def FactorProductsSaid : Prop := factorProductsRow.holds Try.pinned (OpenSpec.ofChange factorProductsSpec)

/-- ITS FALSE NEIGHBOUR: 'it returns false'. Refute it at one input. -/
def factorProductsWrong : ChangeSpec := { name := "factorProducts", fn := fun _ => fun
  | [d] => { results := [.lit (.bool false)], args := [d] }
  | _ => none }
def FactorProductsWrongFalsely : Prop := factorProductsRow.holds Try.pinned (OpenSpec.ofChange factorProductsWrong)

/-- 'codewrightlaw06.FactorOrder': WHATEVER THE INPUT: true; the input reads as it did. -/
def factorOrderSpec : ChangeSpec := { name := "factorOrder", fn := fun _ => fun
  | [d1, d2, d3] => { results := [.lit (.bool true)], args := [d1, d2, d3] }
  | _ => none }
def factorOrderRow : OpenClaim := { program := "ytaipfkmlgdmjbaa", sum := "32db79d5777cf6b33281222b4ec99f1cb69cb68869c53460a8d545baac7d0c31", func := "codewright/codewrightlaw06.FactorOrder", spec := "factorOrder", unfollowed := true, recurses := true, apart := false }
def FactorOrderSaid : Prop := factorOrderRow.holds Try.pinned (OpenSpec.ofChange factorOrderSpec)

/-- ITS FALSE NEIGHBOUR: 'it returns false'. Refute it at one input. -/
def factorOrderWrong : ChangeSpec := { name := "factorOrder", fn := fun _ => fun
  | [d1, d2, d3] => { results := [.lit (.bool false)], args := [d1, d2, d3] }
  | _ => none }
def FactorOrderWrongFalsely : Prop := factorOrderRow.holds Try.pinned (OpenSpec.ofChange factorOrderWrong)

/-- 'codewrightlaw06.FactorCounts': WHATEVER THE INPUT: true; the input reads as it did. -/
def factorCountsSpec : ChangeSpec := { name := "factorCounts", fn := fun _ => fun
  | [d1, d2] => { results := [.lit (.bool true)], args := [d1, d2] }
  | _ => none }
def factorCountsRow : OpenClaim := { program := "ytaipfkmlgdmjbaa", sum := "32db79d5777cf6b33281222b4ec99f1cb69cb68869c53460a8d545baac7d0c31", func := "codewright/codewrightlaw06.FactorCounts", spec := "factorCounts", unfollowed := true, recurses := true, named := ["math/bits.overflowError"], apart := false }
def FactorCountsSaid : Prop := factorCountsRow.holds Try.pinned (OpenSpec.ofChange factorCountsSpec)

/-- ITS FALSE NEIGHBOUR: 'it returns false'. Refute it at one input. -/
def factorCountsWrong : ChangeSpec := { name := "factorCounts", fn := fun _ => fun
  | [d1, d2] => { results := [.lit (.bool false)], args := [d1, d2] }
  | _ => none }
def FactorCountsWrongFalsely : Prop := factorCountsRow.holds Try.pinned (OpenSpec.ofChange factorCountsWrong)

/-- 'codewrightlaw06.FactorPeriods': WHATEVER THE INPUT: true; the input reads as it did. -/
def factorPeriodsSpec : ChangeSpec := { name := "factorPeriods", fn := fun _ => fun
  | [d1, d2] => { results := [.lit (.bool true)], args := [d1, d2] }
  | _ => none }
def factorPeriodsRow : OpenClaim := { program := "ytaipfkmlgdmjbaa", sum := "32db79d5777cf6b33281222b4ec99f1cb69cb68869c53460a8d545baac7d0c31", func := "codewright/codewrightlaw06.FactorPeriods", spec := "factorPeriods", unfollowed := true, recurses := true, apart := false }
def FactorPeriodsSaid : Prop := factorPeriodsRow.holds Try.pinned (OpenSpec.ofChange factorPeriodsSpec)

/-- ITS FALSE NEIGHBOUR: 'it returns false'. Refute it at one input. -/
def factorPeriodsWrong : ChangeSpec := { name := "factorPeriods", fn := fun _ => fun
  | [d1, d2] => { results := [.lit (.bool false)], args := [d1, d2] }
  | _ => none }
def FactorPeriodsWrongFalsely : Prop := factorPeriodsRow.holds Try.pinned (OpenSpec.ofChange factorPeriodsWrong)

/- THE SECOND FORM. 'bulk': how many values and letters a reading holds, each counted each time it is reached (what is shared counts as often as it is met; a slice's spare places count too). A statement '..UptoSaid' is the law's where the arguments, and the package variables that the reading takes, are together of bulk at most 1048576: NARROWER than '..Said'. Prove '..Said' where nothing that the law and all that it calls make is longer than what came in: it says more and counts as full. Else prove '..UptoSaid'. A law counts once. -/
mutual
def uptoBulk {H : Type} : DataW H → Nat
  | .lit (.string bytes) => bytes.length + 1
  | .lit _ => 1
  | .nil => 1
  | .ptr d => uptoBulk d + 1
  | .slice elems spare => uptoBulkAll elems + uptoBulkAll spare + 1
  | .agg parts => uptoBulkAll parts + 1
  | .iface _ d => uptoBulk d + 1
  | .map entries => uptoBulkEntries entries + 1
  | .held _ => 1
def uptoBulkAll {H : Type} : List (DataW H) → Nat
  | [] => 0
  | d :: r => uptoBulk d + uptoBulkAll r
def uptoBulkEntries {H : Type} : List (Lit × DataW H) → Nat
  | [] => 0
  | x :: r => uptoBulkEntry x + uptoBulkEntries r
def uptoBulkEntry {H : Type} : Lit × DataW H → Nat
  | (.string bytes, d) => bytes.length + uptoBulk d + 1
  | (_, d) => uptoBulk d + 1
 end
def uptoSmall : (H : Type) → List (DataW H) → Bool := fun _ ds => decide (uptoBulkAll ds ≤ 1048576)
def OpenSpec.upto (s : _root_.Go.ChangeSpec) : _root_.Go.OpenSpec := { _root_.Go.OpenSpec.ofChange s with cond := some uptoSmall }

/-- 'codewrightlaw06.FactorProducts', WHERE WHAT IT READS IS OF BULK AT MOST 1048576: true; the input reads as it did. -/
def factorProductsUptoRow : OpenClaim := { program := "ytaipfkmlgdmjbaa", sum := "32db79d5777cf6b33281222b4ec99f1cb69cb68869c53460a8d545baac7d0c31", func := "codewright/codewrightlaw06.FactorProducts", spec := "factorProducts", unfollowed := true, recurses := true, apart := false, narrowed := true }
def FactorProductsUptoSaid : Prop := factorProductsUptoRow.holds Try.pinned (OpenSpec.upto factorProductsSpec)

/-- 'codewrightlaw06.FactorOrder', WHERE WHAT IT READS IS OF BULK AT MOST 1048576: true; the input reads as it did. -/
def factorOrderUptoRow : OpenClaim := { program := "ytaipfkmlgdmjbaa", sum := "32db79d5777cf6b33281222b4ec99f1cb69cb68869c53460a8d545baac7d0c31", func := "codewright/codewrightlaw06.FactorOrder", spec := "factorOrder", unfollowed := true, recurses := true, apart := false, narrowed := true }
def FactorOrderUptoSaid : Prop := factorOrderUptoRow.holds Try.pinned (OpenSpec.upto factorOrderSpec)

/-- 'codewrightlaw06.FactorCounts', WHERE WHAT IT READS IS OF BULK AT MOST 1048576: true; the input reads as it did. -/
def factorCountsUptoRow : OpenClaim := { program := "ytaipfkmlgdmjbaa", sum := "32db79d5777cf6b33281222b4ec99f1cb69cb68869c53460a8d545baac7d0c31", func := "codewright/codewrightlaw06.FactorCounts", spec := "factorCounts", unfollowed := true, recurses := true, named := ["math/bits.overflowError"], apart := false, narrowed := true }
def FactorCountsUptoSaid : Prop := factorCountsUptoRow.holds Try.pinned (OpenSpec.upto factorCountsSpec)

/-- 'codewrightlaw06.FactorPeriods', WHERE WHAT IT READS IS OF BULK AT MOST 1048576: true; the input reads as it did. -/
def factorPeriodsUptoRow : OpenClaim := { program := "ytaipfkmlgdmjbaa", sum := "32db79d5777cf6b33281222b4ec99f1cb69cb68869c53460a8d545baac7d0c31", func := "codewright/codewrightlaw06.FactorPeriods", spec := "factorPeriods", unfollowed := true, recurses := true, apart := false, narrowed := true }
def FactorPeriodsUptoSaid : Prop := factorPeriodsUptoRow.holds Try.pinned (OpenSpec.upto factorPeriodsSpec)

end Rows
end Go.Proofs.Ytaipfkmlgdmjbaa
