/-
  No cell of these rows narrows 'for every input' (looked for: loops, veiled, ifaces, maps, wideKeys, modest, calm, conditions, laid).
  DERIVED. THE GIVEN ROWS OF THIS SEAT. 10 by the template 'for every input the law returns true; each argument reads behind the call as it read before'; 0 by the template 'total and deterministic' (their statements: YthfpcebcfjlkmabTotals.lean).
  GIVEN WITH THE SEED: the statements are not yours to turn. If you find one false, say at which input.
  Laid BY PROGRAM, IN A SANDBOX (cutbox-rows.mjs): the forced cells as the released guide's own fill.sh prints them over the translation 4ef429e82928290c… (all of the seat's roots in one cut). By AI agents, Wed Nov 11 2026. No macro, syntax, notation, axiom, sorry.
-/
import Derived.Test.YthfpcebcfjlkmabChecked
import GoSem.Claim
import GoSem.ClaimJoined
import GoSem.ClaimMapViews
import Derived.JoinedTies
import Derived.KernelRfl
namespace Go.Proofs.Ythfpcebcfjlkmab
/- THE CELL 'sum', in the pinned program and in every row, IS THE sha256 OF THE DUMP (.gsa) THAT YthfpcebcfjlkmabProg.lean LOADS. Nothing in Lean hashes anything: it is a label: what it is worth is what the hold of that sum in a sandbox is worth. -/
noncomputable def Try.pinned : Pinned := { name := "ythfpcebcfjlkmab", sum := "4ef429e82928290c40736935013745650828d034fe58bed3bb2efb09c6c51949", checked := Try.checked }
namespace Rows
def none {H : Type} : Left H := { results := [], args := [] }

/-- 'codewrightlaw01.NatVandermonde': WHATEVER THE INPUT: true; the input reads as it did. -/
def natVandermondeSpec : ChangeSpec := { name := "natVandermonde", fn := fun _ => fun
  | [d1, d2, d3] => { results := [.lit (.bool true)], args := [d1, d2, d3] }
  | _ => none }
def natVandermondeRow : OpenClaim := { program := "ythfpcebcfjlkmab", sum := "4ef429e82928290c40736935013745650828d034fe58bed3bb2efb09c6c51949", func := "codewright/codewrightlaw01.NatVandermonde", spec := "natVandermonde", recurses := true, named := ["math/bits.overflowError"], apart := false }
def NatVandermondeSaid : Prop := natVandermondeRow.holds Try.pinned (OpenSpec.ofChange natVandermondeSpec)

/-- ITS FALSE NEIGHBOUR: 'it returns false'. Refute it at one input. -/
def natVandermondeWrong : ChangeSpec := { name := "natVandermonde", fn := fun _ => fun
  | [d1, d2, d3] => { results := [.lit (.bool false)], args := [d1, d2, d3] }
  | _ => none }
def NatVandermondeWrongFalsely : Prop := natVandermondeRow.holds Try.pinned (OpenSpec.ofChange natVandermondeWrong)

/-- 'codewrightlaw02.RationalForms': WHATEVER THE INPUT: true; the input reads as it did. -/
def rationalFormsSpec : ChangeSpec := { name := "rationalForms", fn := fun _ => fun
  | [d] => { results := [.lit (.bool true)], args := [d] }
  | _ => none }
def rationalFormsRow : OpenClaim := { program := "ythfpcebcfjlkmab", sum := "4ef429e82928290c40736935013745650828d034fe58bed3bb2efb09c6c51949", func := "codewright/codewrightlaw02.RationalForms", spec := "rationalForms", named := ["math/bits.overflowError"], apart := false }
def RationalFormsSaid : Prop := rationalFormsRow.holds Try.pinned (OpenSpec.ofChange rationalFormsSpec)

/-- ITS FALSE NEIGHBOUR: 'it returns false'. Refute it at one input. -/
def rationalFormsWrong : ChangeSpec := { name := "rationalForms", fn := fun _ => fun
  | [d] => { results := [.lit (.bool false)], args := [d] }
  | _ => none }
def RationalFormsWrongFalsely : Prop := rationalFormsRow.holds Try.pinned (OpenSpec.ofChange rationalFormsWrong)

/-- 'codewrightlaw02.RationalMakes': WHATEVER THE INPUT: true; the input reads as it did. -/
def rationalMakesSpec : ChangeSpec := { name := "rationalMakes", fn := fun _ => fun
  | [d1, d2] => { results := [.lit (.bool true)], args := [d1, d2] }
  | _ => none }
def rationalMakesRow : OpenClaim := { program := "ythfpcebcfjlkmab", sum := "4ef429e82928290c40736935013745650828d034fe58bed3bb2efb09c6c51949", func := "codewright/codewrightlaw02.RationalMakes", spec := "rationalMakes", named := ["math/bits.overflowError"], apart := false }
def RationalMakesSaid : Prop := rationalMakesRow.holds Try.pinned (OpenSpec.ofChange rationalMakesSpec)

/-- ITS FALSE NEIGHBOUR: 'it returns false'. Refute it at one input. -/
def rationalMakesWrong : ChangeSpec := { name := "rationalMakes", fn := fun _ => fun
  | [d1, d2] => { results := [.lit (.bool false)], args := [d1, d2] }
  | _ => none }
def RationalMakesWrongFalsely : Prop := rationalMakesRow.holds Try.pinned (OpenSpec.ofChange rationalMakesWrong)

/-- 'codewrightlaw02.RationalRatios': WHATEVER THE INPUT: true; the input reads as it did. -/
def rationalRatiosSpec : ChangeSpec := { name := "rationalRatios", fn := fun _ => fun
  | [d1, d2] => { results := [.lit (.bool true)], args := [d1, d2] }
  | _ => none }
def rationalRatiosRow : OpenClaim := { program := "ythfpcebcfjlkmab", sum := "4ef429e82928290c40736935013745650828d034fe58bed3bb2efb09c6c51949", func := "codewright/codewrightlaw02.RationalRatios", spec := "rationalRatios", named := ["math/bits.overflowError"], apart := false }
def RationalRatiosSaid : Prop := rationalRatiosRow.holds Try.pinned (OpenSpec.ofChange rationalRatiosSpec)

/-- ITS FALSE NEIGHBOUR: 'it returns false'. Refute it at one input. -/
def rationalRatiosWrong : ChangeSpec := { name := "rationalRatios", fn := fun _ => fun
  | [d1, d2] => { results := [.lit (.bool false)], args := [d1, d2] }
  | _ => none }
def RationalRatiosWrongFalsely : Prop := rationalRatiosRow.holds Try.pinned (OpenSpec.ofChange rationalRatiosWrong)

/-- 'codewrightlaw02.RationalLists': WHATEVER THE INPUT: true; the input reads as it did. -/
def rationalListsSpec : ChangeSpec := { name := "rationalLists", fn := fun _ => fun
  | [d1, d2] => { results := [.lit (.bool true)], args := [d1, d2] }
  | _ => none }
def rationalListsRow : OpenClaim := { program := "ythfpcebcfjlkmab", sum := "4ef429e82928290c40736935013745650828d034fe58bed3bb2efb09c6c51949", func := "codewright/codewrightlaw02.RationalLists", spec := "rationalLists", unfollowed := true, recurses := true, named := ["math/bits.overflowError"], apart := false }
def RationalListsSaid : Prop := rationalListsRow.holds Try.pinned (OpenSpec.ofChange rationalListsSpec)

/-- ITS FALSE NEIGHBOUR: 'it returns false'. Refute it at one input. -/
def rationalListsWrong : ChangeSpec := { name := "rationalLists", fn := fun _ => fun
  | [d1, d2] => { results := [.lit (.bool false)], args := [d1, d2] }
  | _ => none }
def RationalListsWrongFalsely : Prop := rationalListsRow.holds Try.pinned (OpenSpec.ofChange rationalListsWrong)

/-- 'codewrightlaw02.RationalField': WHATEVER THE INPUT: true; the input reads as it did. -/
def rationalFieldSpec : ChangeSpec := { name := "rationalField", fn := fun _ => fun
  | [d1, d2, d3] => { results := [.lit (.bool true)], args := [d1, d2, d3] }
  | _ => none }
def rationalFieldRow : OpenClaim := { program := "ythfpcebcfjlkmab", sum := "4ef429e82928290c40736935013745650828d034fe58bed3bb2efb09c6c51949", func := "codewright/codewrightlaw02.RationalField", spec := "rationalField", unfollowed := true, recurses := true, named := ["math/bits.overflowError"], apart := false }
def RationalFieldSaid : Prop := rationalFieldRow.holds Try.pinned (OpenSpec.ofChange rationalFieldSpec)

/-- ITS FALSE NEIGHBOUR: 'it returns false'. Refute it at one input. -/
def rationalFieldWrong : ChangeSpec := { name := "rationalField", fn := fun _ => fun
  | [d1, d2, d3] => { results := [.lit (.bool false)], args := [d1, d2, d3] }
  | _ => none }
def RationalFieldWrongFalsely : Prop := rationalFieldRow.holds Try.pinned (OpenSpec.ofChange rationalFieldWrong)

/-- 'codewrightlaw02.RationalDivides': WHATEVER THE INPUT: true; the input reads as it did. -/
def rationalDividesSpec : ChangeSpec := { name := "rationalDivides", fn := fun _ => fun
  | [d1, d2] => { results := [.lit (.bool true)], args := [d1, d2] }
  | _ => none }
def rationalDividesRow : OpenClaim := { program := "ythfpcebcfjlkmab", sum := "4ef429e82928290c40736935013745650828d034fe58bed3bb2efb09c6c51949", func := "codewright/codewrightlaw02.RationalDivides", spec := "rationalDivides", unfollowed := true, recurses := true, named := ["math/bits.overflowError"], apart := false }
def RationalDividesSaid : Prop := rationalDividesRow.holds Try.pinned (OpenSpec.ofChange rationalDividesSpec)

/-- ITS FALSE NEIGHBOUR: 'it returns false'. Refute it at one input. -/
def rationalDividesWrong : ChangeSpec := { name := "rationalDivides", fn := fun _ => fun
  | [d1, d2] => { results := [.lit (.bool false)], args := [d1, d2] }
  | _ => none }
def RationalDividesWrongFalsely : Prop := rationalDividesRow.holds Try.pinned (OpenSpec.ofChange rationalDividesWrong)

/-- 'codewrightlaw02.RationalOrders': WHATEVER THE INPUT: true; the input reads as it did. -/
def rationalOrdersSpec : ChangeSpec := { name := "rationalOrders", fn := fun _ => fun
  | [d1, d2, d3] => { results := [.lit (.bool true)], args := [d1, d2, d3] }
  | _ => none }
def rationalOrdersRow : OpenClaim := { program := "ythfpcebcfjlkmab", sum := "4ef429e82928290c40736935013745650828d034fe58bed3bb2efb09c6c51949", func := "codewright/codewrightlaw02.RationalOrders", spec := "rationalOrders", unfollowed := true, recurses := true, named := ["math/bits.overflowError"], apart := false }
def RationalOrdersSaid : Prop := rationalOrdersRow.holds Try.pinned (OpenSpec.ofChange rationalOrdersSpec)

/-- ITS FALSE NEIGHBOUR: 'it returns false'. Refute it at one input. -/
def rationalOrdersWrong : ChangeSpec := { name := "rationalOrders", fn := fun _ => fun
  | [d1, d2, d3] => { results := [.lit (.bool false)], args := [d1, d2, d3] }
  | _ => none }
def RationalOrdersWrongFalsely : Prop := rationalOrdersRow.holds Try.pinned (OpenSpec.ofChange rationalOrdersWrong)

/-- 'codewrightlaw02.RationalPowers': WHATEVER THE INPUT: true; the input reads as it did. -/
def rationalPowersSpec : ChangeSpec := { name := "rationalPowers", fn := fun _ => fun
  | [d1, d2] => { results := [.lit (.bool true)], args := [d1, d2] }
  | _ => none }
def rationalPowersRow : OpenClaim := { program := "ythfpcebcfjlkmab", sum := "4ef429e82928290c40736935013745650828d034fe58bed3bb2efb09c6c51949", func := "codewright/codewrightlaw02.RationalPowers", spec := "rationalPowers", named := ["math/bits.overflowError"], apart := false }
def RationalPowersSaid : Prop := rationalPowersRow.holds Try.pinned (OpenSpec.ofChange rationalPowersSpec)

/-- ITS FALSE NEIGHBOUR: 'it returns false'. Refute it at one input. -/
def rationalPowersWrong : ChangeSpec := { name := "rationalPowers", fn := fun _ => fun
  | [d1, d2] => { results := [.lit (.bool false)], args := [d1, d2] }
  | _ => none }
def RationalPowersWrongFalsely : Prop := rationalPowersRow.holds Try.pinned (OpenSpec.ofChange rationalPowersWrong)

/-- 'codewrightlaw02.RationalExponents': WHATEVER THE INPUT: true; the input reads as it did. -/
def rationalExponentsSpec : ChangeSpec := { name := "rationalExponents", fn := fun _ => fun
  | [d1, d2, d3] => { results := [.lit (.bool true)], args := [d1, d2, d3] }
  | _ => none }
def rationalExponentsRow : OpenClaim := { program := "ythfpcebcfjlkmab", sum := "4ef429e82928290c40736935013745650828d034fe58bed3bb2efb09c6c51949", func := "codewright/codewrightlaw02.RationalExponents", spec := "rationalExponents", unfollowed := true, recurses := true, named := ["math/bits.overflowError"], apart := false }
def RationalExponentsSaid : Prop := rationalExponentsRow.holds Try.pinned (OpenSpec.ofChange rationalExponentsSpec)

/-- ITS FALSE NEIGHBOUR: 'it returns false'. Refute it at one input. -/
def rationalExponentsWrong : ChangeSpec := { name := "rationalExponents", fn := fun _ => fun
  | [d1, d2, d3] => { results := [.lit (.bool false)], args := [d1, d2, d3] }
  | _ => none }
def RationalExponentsWrongFalsely : Prop := rationalExponentsRow.holds Try.pinned (OpenSpec.ofChange rationalExponentsWrong)

/- THE SECOND FORM. 'bulk': how many values and letters a reading holds, each counted each time it is reached (what is shared counts as often as it is met; a slice's spare places count too). A statement '..UptoSaid' is the law's where the arguments, and the package variables that the reading takes, are together of bulk at most 1048576: NARROWER than '..Said'. Prove '..Said' where nothing that the law and all that it calls make is longer than what came in: it says more and counts as full. Else prove '..UptoSaid'. A law counts once. -/
mutual
def uptoBulk {H : Type} : DataW H → Nat
  | .lit (.string bytes) => bytes.length + 1
  | .lit _ => 1
  | .nil => 1
  | .ptr d => uptoBulk d + 1
  | .slice elems spare => uptoBulkAll elems + uptoBulkAll spare + 1
  | .agg parts => uptoBulkAll parts + 1
  | .iface _ d => uptoBulk d + 1
  | .map entries => uptoBulkEntries entries + 1
  | .held _ => 1
def uptoBulkAll {H : Type} : List (DataW H) → Nat
  | [] => 0
  | d :: r => uptoBulk d + uptoBulkAll r
def uptoBulkEntries {H : Type} : List (Lit × DataW H) → Nat
  | [] => 0
  | x :: r => uptoBulkEntry x + uptoBulkEntries r
def uptoBulkEntry {H : Type} : Lit × DataW H → Nat
  | (.string bytes, d) => bytes.length + uptoBulk d + 1
  | (_, d) => uptoBulk d + 1
 end
def uptoSmall : (H : Type) → List (DataW H) → Bool := fun _ ds => decide (uptoBulkAll ds ≤ 1048576)
def OpenSpec.upto (s : _root_.Go.ChangeSpec) : _root_.Go.OpenSpec := { _root_.Go.OpenSpec.ofChange s with cond := some uptoSmall }

/-- 'codewrightlaw01.NatVandermonde', WHERE WHAT IT READS IS OF BULK AT MOST 1048576: true; the input reads as it did. -/
def natVandermondeUptoRow : OpenClaim := { program := "ythfpcebcfjlkmab", sum := "4ef429e82928290c40736935013745650828d034fe58bed3bb2efb09c6c51949", func := "codewright/codewrightlaw01.NatVandermonde", spec := "natVandermonde", recurses := true, named := ["math/bits.overflowError"], apart := false, narrowed := true }
def NatVandermondeUptoSaid : Prop := natVandermondeUptoRow.holds Try.pinned (OpenSpec.upto natVandermondeSpec)

/-- 'codewrightlaw02.RationalForms', WHERE WHAT IT READS IS OF BULK AT MOST 1048576: true; the input reads as it did. -/
def rationalFormsUptoRow : OpenClaim := { program := "ythfpcebcfjlkmab", sum := "4ef429e82928290c40736935013745650828d034fe58bed3bb2efb09c6c51949", func := "codewright/codewrightlaw02.RationalForms", spec := "rationalForms", named := ["math/bits.overflowError"], apart := false, narrowed := true }
def RationalFormsUptoSaid : Prop := rationalFormsUptoRow.holds Try.pinned (OpenSpec.upto rationalFormsSpec)

/-- 'codewrightlaw02.RationalMakes', WHERE WHAT IT READS IS OF BULK AT MOST 1048576: true; the input reads as it did. -/
def rationalMakesUptoRow : OpenClaim := { program := "ythfpcebcfjlkmab", sum := "4ef429e82928290c40736935013745650828d034fe58bed3bb2efb09c6c51949", func := "codewright/codewrightlaw02.RationalMakes", spec := "rationalMakes", named := ["math/bits.overflowError"], apart := false, narrowed := true }
def RationalMakesUptoSaid : Prop := rationalMakesUptoRow.holds Try.pinned (OpenSpec.upto rationalMakesSpec)

/-- 'codewrightlaw02.RationalRatios', WHERE WHAT IT READS IS OF BULK AT MOST 1048576: true; the input reads as it did. -/
def rationalRatiosUptoRow : OpenClaim := { program := "ythfpcebcfjlkmab", sum := "4ef429e82928290c40736935013745650828d034fe58bed3bb2efb09c6c51949", func := "codewright/codewrightlaw02.RationalRatios", spec := "rationalRatios", named := ["math/bits.overflowError"], apart := false, narrowed := true }
def RationalRatiosUptoSaid : Prop := rationalRatiosUptoRow.holds Try.pinned (OpenSpec.upto rationalRatiosSpec)

/-- 'codewrightlaw02.RationalLists', WHERE WHAT IT READS IS OF BULK AT MOST 1048576: true; the input reads as it did. -/
def rationalListsUptoRow : OpenClaim := { program := "ythfpcebcfjlkmab", sum := "4ef429e82928290c40736935013745650828d034fe58bed3bb2efb09c6c51949", func := "codewright/codewrightlaw02.RationalLists", spec := "rationalLists", unfollowed := true, recurses := true, named := ["math/bits.overflowError"], apart := false, narrowed := true }
def RationalListsUptoSaid : Prop := rationalListsUptoRow.holds Try.pinned (OpenSpec.upto rationalListsSpec)

/-- 'codewrightlaw02.RationalField', WHERE WHAT IT READS IS OF BULK AT MOST 1048576: true; the input reads as it did. -/
def rationalFieldUptoRow : OpenClaim := { program := "ythfpcebcfjlkmab", sum := "4ef429e82928290c40736935013745650828d034fe58bed3bb2efb09c6c51949", func := "codewright/codewrightlaw02.RationalField", spec := "rationalField", unfollowed := true, recurses := true, named := ["math/bits.overflowError"], apart := false, narrowed := true }
def RationalFieldUptoSaid : Prop := rationalFieldUptoRow.holds Try.pinned (OpenSpec.upto rationalFieldSpec)

/-- 'codewrightlaw02.RationalDivides', WHERE WHAT IT READS IS OF BULK AT MOST 1048576: true; the input reads as it did. -/
def rationalDividesUptoRow : OpenClaim := { program := "ythfpcebcfjlkmab", sum := "4ef429e82928290c40736935013745650828d034fe58bed3bb2efb09c6c51949", func := "codewright/codewrightlaw02.RationalDivides", spec := "rationalDivides", unfollowed := true, recurses := true, named := ["math/bits.overflowError"], apart := false, narrowed := true }
def RationalDividesUptoSaid : Prop := rationalDividesUptoRow.holds Try.pinned (OpenSpec.upto rationalDividesSpec)

/-- 'codewrightlaw02.RationalOrders', WHERE WHAT IT READS IS OF BULK AT MOST 1048576: true; the input reads as it did. -/
def rationalOrdersUptoRow : OpenClaim := { program := "ythfpcebcfjlkmab", sum := "4ef429e82928290c40736935013745650828d034fe58bed3bb2efb09c6c51949", func := "codewright/codewrightlaw02.RationalOrders", spec := "rationalOrders", unfollowed := true, recurses := true, named := ["math/bits.overflowError"], apart := false, narrowed := true }
def RationalOrdersUptoSaid : Prop := rationalOrdersUptoRow.holds Try.pinned (OpenSpec.upto rationalOrdersSpec)

/-- 'codewrightlaw02.RationalPowers', WHERE WHAT IT READS IS OF BULK AT MOST 1048576: true; the input reads as it did. -/
def rationalPowersUptoRow : OpenClaim := { program := "ythfpcebcfjlkmab", sum := "4ef429e82928290c40736935013745650828d034fe58bed3bb2efb09c6c51949", func := "codewright/codewrightlaw02.RationalPowers", spec := "rationalPowers", named := ["math/bits.overflowError"], apart := false, narrowed := true }
def RationalPowersUptoSaid : Prop := rationalPowersUptoRow.holds Try.pinned (OpenSpec.upto rationalPowersSpec)

/-- 'codewrightlaw02.RationalExponents', WHERE WHAT IT READS IS OF BULK AT MOST 1048576: true; the input reads as it did. -/
def rationalExponentsUptoRow : OpenClaim := { program := "ythfpcebcfjlkmab", sum := "4ef429e82928290c40736935013745650828d034fe58bed3bb2efb09c6c51949", func := "codewright/codewrightlaw02.RationalExponents", spec := "rationalExponents", unfollowed := true, recurses := true, named := ["math/bits.overflowError"], apart := false, narrowed := true }
def RationalExponentsUptoSaid : Prop := rationalExponentsUptoRow.holds Try.pinned (OpenSpec.upto rationalExponentsSpec)

end Rows
end Go.Proofs.Ythfpcebcfjlkmab
