/-
  No cell of these rows narrows 'for every input' (looked for: loops, veiled, ifaces, maps, wideKeys, modest, calm, conditions, laid).
  DERIVED. THE GIVEN ROWS OF THIS SEAT. 12 by the template 'for every input the law returns true; each argument reads behind the call as it read before'; 0 by the template 'total and deterministic' (their statements: YthfpcebcfjlkmaaTotals.lean).
  GIVEN WITH THE SEED: the statements are not yours to turn. If you find one false, say at which input.
  Laid BY PROGRAM, IN A SANDBOX (cutbox-rows.mjs): the forced cells as the released guide's own fill.sh prints them over the translation 83c85d1c0131cb75… (all of the seat's roots in one cut). By AI agents, Wed Nov 11 2026. No macro, syntax, notation, axiom, sorry.
-/
import Derived.Test.YthfpcebcfjlkmaaChecked
import GoSem.Claim
import GoSem.ClaimJoined
import GoSem.ClaimMapViews
import Derived.JoinedTies
import Derived.KernelRfl
namespace Go.Proofs.Ythfpcebcfjlkmaa
/- THE CELL 'sum', in the pinned program and in every row, IS THE sha256 OF THE DUMP (.gsa) THAT YthfpcebcfjlkmaaProg.lean LOADS. Nothing in Lean hashes anything: it is a label: what it is worth is what the hold of that sum in a sandbox is worth. -/
noncomputable def Try.pinned : Pinned := { name := "ythfpcebcfjlkmaa", sum := "83c85d1c0131cb75f5b00f7e1d7aa7b52957f51ff7b9be2c201628f867c36ad6", checked := Try.checked }
namespace Rows
def none {H : Type} : Left H := { results := [], args := [] }

/-- 'codewrightlaw01.NatForms': WHATEVER THE INPUT: true; the input reads as it did. -/
def natFormsSpec : ChangeSpec := { name := "natForms", fn := fun _ => fun
  | [d1, d2] => { results := [.lit (.bool true)], args := [d1, d2] }
  | _ => none }
def natFormsRow : OpenClaim := { program := "ythfpcebcfjlkmaa", sum := "83c85d1c0131cb75f5b00f7e1d7aa7b52957f51ff7b9be2c201628f867c36ad6", func := "codewright/codewrightlaw01.NatForms", spec := "natForms", apart := false }
def NatFormsSaid : Prop := natFormsRow.holds Try.pinned (OpenSpec.ofChange natFormsSpec)

/-- ITS FALSE NEIGHBOUR: 'it returns false'. Refute it at one input. -/
def natFormsWrong : ChangeSpec := { name := "natForms", fn := fun _ => fun
  | [d1, d2] => { results := [.lit (.bool false)], args := [d1, d2] }
  | _ => none }
def NatFormsWrongFalsely : Prop := natFormsRow.holds Try.pinned (OpenSpec.ofChange natFormsWrong)

/-- 'codewrightlaw01.NatAdds': WHATEVER THE INPUT: true; the input reads as it did. -/
def natAddsSpec : ChangeSpec := { name := "natAdds", fn := fun _ => fun
  | [d1, d2] => { results := [.lit (.bool true)], args := [d1, d2] }
  | _ => none }
def natAddsRow : OpenClaim := { program := "ythfpcebcfjlkmaa", sum := "83c85d1c0131cb75f5b00f7e1d7aa7b52957f51ff7b9be2c201628f867c36ad6", func := "codewright/codewrightlaw01.NatAdds", spec := "natAdds", recurses := true, apart := false }
def NatAddsSaid : Prop := natAddsRow.holds Try.pinned (OpenSpec.ofChange natAddsSpec)

/-- ITS FALSE NEIGHBOUR: 'it returns false'. Refute it at one input. -/
def natAddsWrong : ChangeSpec := { name := "natAdds", fn := fun _ => fun
  | [d1, d2] => { results := [.lit (.bool false)], args := [d1, d2] }
  | _ => none }
def NatAddsWrongFalsely : Prop := natAddsRow.holds Try.pinned (OpenSpec.ofChange natAddsWrong)

/-- 'codewrightlaw01.NatSums': WHATEVER THE INPUT: true; the input reads as it did. -/
def natSumsSpec : ChangeSpec := { name := "natSums", fn := fun _ => fun
  | [d1, d2] => { results := [.lit (.bool true)], args := [d1, d2] }
  | _ => none }
def natSumsRow : OpenClaim := { program := "ythfpcebcfjlkmaa", sum := "83c85d1c0131cb75f5b00f7e1d7aa7b52957f51ff7b9be2c201628f867c36ad6", func := "codewright/codewrightlaw01.NatSums", spec := "natSums", recurses := true, apart := false }
def NatSumsSaid : Prop := natSumsRow.holds Try.pinned (OpenSpec.ofChange natSumsSpec)

/-- ITS FALSE NEIGHBOUR: 'it returns false'. Refute it at one input. -/
def natSumsWrong : ChangeSpec := { name := "natSums", fn := fun _ => fun
  | [d1, d2] => { results := [.lit (.bool false)], args := [d1, d2] }
  | _ => none }
def NatSumsWrongFalsely : Prop := natSumsRow.holds Try.pinned (OpenSpec.ofChange natSumsWrong)

/-- 'codewrightlaw01.NatRing': WHATEVER THE INPUT: true; the input reads as it did. -/
def natRingSpec : ChangeSpec := { name := "natRing", fn := fun _ => fun
  | [d1, d2, d3] => { results := [.lit (.bool true)], args := [d1, d2, d3] }
  | _ => none }
def natRingRow : OpenClaim := { program := "ythfpcebcfjlkmaa", sum := "83c85d1c0131cb75f5b00f7e1d7aa7b52957f51ff7b9be2c201628f867c36ad6", func := "codewright/codewrightlaw01.NatRing", spec := "natRing", recurses := true, apart := false }
def NatRingSaid : Prop := natRingRow.holds Try.pinned (OpenSpec.ofChange natRingSpec)

/-- ITS FALSE NEIGHBOUR: 'it returns false'. Refute it at one input. -/
def natRingWrong : ChangeSpec := { name := "natRing", fn := fun _ => fun
  | [d1, d2, d3] => { results := [.lit (.bool false)], args := [d1, d2, d3] }
  | _ => none }
def NatRingWrongFalsely : Prop := natRingRow.holds Try.pinned (OpenSpec.ofChange natRingWrong)

/-- 'codewrightlaw01.NatOrders': WHATEVER THE INPUT: true; the input reads as it did. -/
def natOrdersSpec : ChangeSpec := { name := "natOrders", fn := fun _ => fun
  | [d1, d2, d3] => { results := [.lit (.bool true)], args := [d1, d2, d3] }
  | _ => none }
def natOrdersRow : OpenClaim := { program := "ythfpcebcfjlkmaa", sum := "83c85d1c0131cb75f5b00f7e1d7aa7b52957f51ff7b9be2c201628f867c36ad6", func := "codewright/codewrightlaw01.NatOrders", spec := "natOrders", apart := false }
def NatOrdersSaid : Prop := natOrdersRow.holds Try.pinned (OpenSpec.ofChange natOrdersSpec)

/-- ITS FALSE NEIGHBOUR: 'it returns false'. Refute it at one input. -/
def natOrdersWrong : ChangeSpec := { name := "natOrders", fn := fun _ => fun
  | [d1, d2, d3] => { results := [.lit (.bool false)], args := [d1, d2, d3] }
  | _ => none }
def NatOrdersWrongFalsely : Prop := natOrdersRow.holds Try.pinned (OpenSpec.ofChange natOrdersWrong)

/-- 'codewrightlaw01.NatDivisions': WHATEVER THE INPUT: true; the input reads as it did. -/
def natDivisionsSpec : ChangeSpec := { name := "natDivisions", fn := fun _ => fun
  | [d1, d2, d3] => { results := [.lit (.bool true)], args := [d1, d2, d3] }
  | _ => none }
def natDivisionsRow : OpenClaim := { program := "ythfpcebcfjlkmaa", sum := "83c85d1c0131cb75f5b00f7e1d7aa7b52957f51ff7b9be2c201628f867c36ad6", func := "codewright/codewrightlaw01.NatDivisions", spec := "natDivisions", recurses := true, named := ["math/bits.overflowError"], apart := false }
def NatDivisionsSaid : Prop := natDivisionsRow.holds Try.pinned (OpenSpec.ofChange natDivisionsSpec)

/-- ITS FALSE NEIGHBOUR: 'it returns false'. Refute it at one input. -/
def natDivisionsWrong : ChangeSpec := { name := "natDivisions", fn := fun _ => fun
  | [d1, d2, d3] => { results := [.lit (.bool false)], args := [d1, d2, d3] }
  | _ => none }
def NatDivisionsWrongFalsely : Prop := natDivisionsRow.holds Try.pinned (OpenSpec.ofChange natDivisionsWrong)

/-- 'codewrightlaw01.NatGcds': WHATEVER THE INPUT: true; the input reads as it did. -/
def natGcdsSpec : ChangeSpec := { name := "natGcds", fn := fun _ => fun
  | [d1, d2, d3] => { results := [.lit (.bool true)], args := [d1, d2, d3] }
  | _ => none }
def natGcdsRow : OpenClaim := { program := "ythfpcebcfjlkmaa", sum := "83c85d1c0131cb75f5b00f7e1d7aa7b52957f51ff7b9be2c201628f867c36ad6", func := "codewright/codewrightlaw01.NatGcds", spec := "natGcds", recurses := true, named := ["math/bits.overflowError"], apart := false }
def NatGcdsSaid : Prop := natGcdsRow.holds Try.pinned (OpenSpec.ofChange natGcdsSpec)

/-- ITS FALSE NEIGHBOUR: 'it returns false'. Refute it at one input. -/
def natGcdsWrong : ChangeSpec := { name := "natGcds", fn := fun _ => fun
  | [d1, d2, d3] => { results := [.lit (.bool false)], args := [d1, d2, d3] }
  | _ => none }
def NatGcdsWrongFalsely : Prop := natGcdsRow.holds Try.pinned (OpenSpec.ofChange natGcdsWrong)

/-- 'codewrightlaw01.NatCommon': WHATEVER THE INPUT: true; the input reads as it did. -/
def natCommonSpec : ChangeSpec := { name := "natCommon", fn := fun _ => fun
  | [d1, d2, d3] => { results := [.lit (.bool true)], args := [d1, d2, d3] }
  | _ => none }
def natCommonRow : OpenClaim := { program := "ythfpcebcfjlkmaa", sum := "83c85d1c0131cb75f5b00f7e1d7aa7b52957f51ff7b9be2c201628f867c36ad6", func := "codewright/codewrightlaw01.NatCommon", spec := "natCommon", named := ["math/bits.overflowError"], apart := false }
def NatCommonSaid : Prop := natCommonRow.holds Try.pinned (OpenSpec.ofChange natCommonSpec)

/-- ITS FALSE NEIGHBOUR: 'it returns false'. Refute it at one input. -/
def natCommonWrong : ChangeSpec := { name := "natCommon", fn := fun _ => fun
  | [d1, d2, d3] => { results := [.lit (.bool false)], args := [d1, d2, d3] }
  | _ => none }
def NatCommonWrongFalsely : Prop := natCommonRow.holds Try.pinned (OpenSpec.ofChange natCommonWrong)

/-- 'codewrightlaw01.NatPowers': WHATEVER THE INPUT: true; the input reads as it did. -/
def natPowersSpec : ChangeSpec := { name := "natPowers", fn := fun _ => fun
  | [d1, d2] => { results := [.lit (.bool true)], args := [d1, d2] }
  | _ => none }
def natPowersRow : OpenClaim := { program := "ythfpcebcfjlkmaa", sum := "83c85d1c0131cb75f5b00f7e1d7aa7b52957f51ff7b9be2c201628f867c36ad6", func := "codewright/codewrightlaw01.NatPowers", spec := "natPowers", apart := false }
def NatPowersSaid : Prop := natPowersRow.holds Try.pinned (OpenSpec.ofChange natPowersSpec)

/-- ITS FALSE NEIGHBOUR: 'it returns false'. Refute it at one input. -/
def natPowersWrong : ChangeSpec := { name := "natPowers", fn := fun _ => fun
  | [d1, d2] => { results := [.lit (.bool false)], args := [d1, d2] }
  | _ => none }
def NatPowersWrongFalsely : Prop := natPowersRow.holds Try.pinned (OpenSpec.ofChange natPowersWrong)

/-- 'codewrightlaw01.NatExponents': WHATEVER THE INPUT: true; the input reads as it did. -/
def natExponentsSpec : ChangeSpec := { name := "natExponents", fn := fun _ => fun
  | [d1, d2, d3, d4] => { results := [.lit (.bool true)], args := [d1, d2, d3, d4] }
  | _ => none }
def natExponentsRow : OpenClaim := { program := "ythfpcebcfjlkmaa", sum := "83c85d1c0131cb75f5b00f7e1d7aa7b52957f51ff7b9be2c201628f867c36ad6", func := "codewright/codewrightlaw01.NatExponents", spec := "natExponents", recurses := true, apart := false }
def NatExponentsSaid : Prop := natExponentsRow.holds Try.pinned (OpenSpec.ofChange natExponentsSpec)

/-- ITS FALSE NEIGHBOUR: 'it returns false'. Refute it at one input. -/
def natExponentsWrong : ChangeSpec := { name := "natExponents", fn := fun _ => fun
  | [d1, d2, d3, d4] => { results := [.lit (.bool false)], args := [d1, d2, d3, d4] }
  | _ => none }
def NatExponentsWrongFalsely : Prop := natExponentsRow.holds Try.pinned (OpenSpec.ofChange natExponentsWrong)

/-- 'codewrightlaw01.NatBinomials': WHATEVER THE INPUT: true; the input reads as it did. -/
def natBinomialsSpec : ChangeSpec := { name := "natBinomials", fn := fun _ => fun
  | [d1, d2] => { results := [.lit (.bool true)], args := [d1, d2] }
  | _ => none }
def natBinomialsRow : OpenClaim := { program := "ythfpcebcfjlkmaa", sum := "83c85d1c0131cb75f5b00f7e1d7aa7b52957f51ff7b9be2c201628f867c36ad6", func := "codewright/codewrightlaw01.NatBinomials", spec := "natBinomials", named := ["math/bits.overflowError"], apart := false }
def NatBinomialsSaid : Prop := natBinomialsRow.holds Try.pinned (OpenSpec.ofChange natBinomialsSpec)

/-- ITS FALSE NEIGHBOUR: 'it returns false'. Refute it at one input. -/
def natBinomialsWrong : ChangeSpec := { name := "natBinomials", fn := fun _ => fun
  | [d1, d2] => { results := [.lit (.bool false)], args := [d1, d2] }
  | _ => none }
def NatBinomialsWrongFalsely : Prop := natBinomialsRow.holds Try.pinned (OpenSpec.ofChange natBinomialsWrong)

/-- 'codewrightlaw01.NatPascal': WHATEVER THE INPUT: true; the input reads as it did. -/
def natPascalSpec : ChangeSpec := { name := "natPascal", fn := fun _ => fun
  | [d1, d2] => { results := [.lit (.bool true)], args := [d1, d2] }
  | _ => none }
def natPascalRow : OpenClaim := { program := "ythfpcebcfjlkmaa", sum := "83c85d1c0131cb75f5b00f7e1d7aa7b52957f51ff7b9be2c201628f867c36ad6", func := "codewright/codewrightlaw01.NatPascal", spec := "natPascal", named := ["math/bits.overflowError"], apart := false }
def NatPascalSaid : Prop := natPascalRow.holds Try.pinned (OpenSpec.ofChange natPascalSpec)

/-- ITS FALSE NEIGHBOUR: 'it returns false'. Refute it at one input. -/
def natPascalWrong : ChangeSpec := { name := "natPascal", fn := fun _ => fun
  | [d1, d2] => { results := [.lit (.bool false)], args := [d1, d2] }
  | _ => none }
def NatPascalWrongFalsely : Prop := natPascalRow.holds Try.pinned (OpenSpec.ofChange natPascalWrong)

/- THE SECOND FORM. 'bulk': how many values and letters a reading holds, each counted each time it is reached (what is shared counts as often as it is met; a slice's spare places count too). A statement '..UptoSaid' is the law's where the arguments, and the package variables that the reading takes, are together of bulk at most 1048576: NARROWER than '..Said'. Prove '..Said' where nothing that the law and all that it calls make is longer than what came in: it says more and counts as full. Else prove '..UptoSaid'. A law counts once. -/
mutual
def uptoBulk {H : Type} : DataW H → Nat
  | .lit (.string bytes) => bytes.length + 1
  | .lit _ => 1
  | .nil => 1
  | .ptr d => uptoBulk d + 1
  | .slice elems spare => uptoBulkAll elems + uptoBulkAll spare + 1
  | .agg parts => uptoBulkAll parts + 1
  | .iface _ d => uptoBulk d + 1
  | .map entries => uptoBulkEntries entries + 1
  | .held _ => 1
def uptoBulkAll {H : Type} : List (DataW H) → Nat
  | [] => 0
  | d :: r => uptoBulk d + uptoBulkAll r
def uptoBulkEntries {H : Type} : List (Lit × DataW H) → Nat
  | [] => 0
  | x :: r => uptoBulkEntry x + uptoBulkEntries r
def uptoBulkEntry {H : Type} : Lit × DataW H → Nat
  | (.string bytes, d) => bytes.length + uptoBulk d + 1
  | (_, d) => uptoBulk d + 1
 end
def uptoSmall : (H : Type) → List (DataW H) → Bool := fun _ ds => decide (uptoBulkAll ds ≤ 1048576)
def OpenSpec.upto (s : _root_.Go.ChangeSpec) : _root_.Go.OpenSpec := { _root_.Go.OpenSpec.ofChange s with cond := some uptoSmall }

/-- 'codewrightlaw01.NatForms', WHERE WHAT IT READS IS OF BULK AT MOST 1048576: true; the input reads as it did. -/
def natFormsUptoRow : OpenClaim := { program := "ythfpcebcfjlkmaa", sum := "83c85d1c0131cb75f5b00f7e1d7aa7b52957f51ff7b9be2c201628f867c36ad6", func := "codewright/codewrightlaw01.NatForms", spec := "natForms", apart := false, narrowed := true }
def NatFormsUptoSaid : Prop := natFormsUptoRow.holds Try.pinned (OpenSpec.upto natFormsSpec)

/-- 'codewrightlaw01.NatAdds', WHERE WHAT IT READS IS OF BULK AT MOST 1048576: true; the input reads as it did. -/
def natAddsUptoRow : OpenClaim := { program := "ythfpcebcfjlkmaa", sum := "83c85d1c0131cb75f5b00f7e1d7aa7b52957f51ff7b9be2c201628f867c36ad6", func := "codewright/codewrightlaw01.NatAdds", spec := "natAdds", recurses := true, apart := false, narrowed := true }
def NatAddsUptoSaid : Prop := natAddsUptoRow.holds Try.pinned (OpenSpec.upto natAddsSpec)

/-- 'codewrightlaw01.NatSums', WHERE WHAT IT READS IS OF BULK AT MOST 1048576: true; the input reads as it did. -/
def natSumsUptoRow : OpenClaim := { program := "ythfpcebcfjlkmaa", sum := "83c85d1c0131cb75f5b00f7e1d7aa7b52957f51ff7b9be2c201628f867c36ad6", func := "codewright/codewrightlaw01.NatSums", spec := "natSums", recurses := true, apart := false, narrowed := true }
def NatSumsUptoSaid : Prop := natSumsUptoRow.holds Try.pinned (OpenSpec.upto natSumsSpec)

/-- 'codewrightlaw01.NatRing', WHERE WHAT IT READS IS OF BULK AT MOST 1048576: true; the input reads as it did. -/
def natRingUptoRow : OpenClaim := { program := "ythfpcebcfjlkmaa", sum := "83c85d1c0131cb75f5b00f7e1d7aa7b52957f51ff7b9be2c201628f867c36ad6", func := "codewright/codewrightlaw01.NatRing", spec := "natRing", recurses := true, apart := false, narrowed := true }
def NatRingUptoSaid : Prop := natRingUptoRow.holds Try.pinned (OpenSpec.upto natRingSpec)

/-- 'codewrightlaw01.NatOrders', WHERE WHAT IT READS IS OF BULK AT MOST 1048576: true; the input reads as it did. -/
def natOrdersUptoRow : OpenClaim := { program := "ythfpcebcfjlkmaa", sum := "83c85d1c0131cb75f5b00f7e1d7aa7b52957f51ff7b9be2c201628f867c36ad6", func := "codewright/codewrightlaw01.NatOrders", spec := "natOrders", apart := false, narrowed := true }
def NatOrdersUptoSaid : Prop := natOrdersUptoRow.holds Try.pinned (OpenSpec.upto natOrdersSpec)

/-- 'codewrightlaw01.NatDivisions', WHERE WHAT IT READS IS OF BULK AT MOST 1048576: true; the input reads as it did. -/
def natDivisionsUptoRow : OpenClaim := { program := "ythfpcebcfjlkmaa", sum := "83c85d1c0131cb75f5b00f7e1d7aa7b52957f51ff7b9be2c201628f867c36ad6", func := "codewright/codewrightlaw01.NatDivisions", spec := "natDivisions", recurses := true, named := ["math/bits.overflowError"], apart := false, narrowed := true }
def NatDivisionsUptoSaid : Prop := natDivisionsUptoRow.holds Try.pinned (OpenSpec.upto natDivisionsSpec)

/-- 'codewrightlaw01.NatGcds', WHERE WHAT IT READS IS OF BULK AT MOST 1048576: true; the input reads as it did. -/
def natGcdsUptoRow : OpenClaim := { program := "ythfpcebcfjlkmaa", sum := "83c85d1c0131cb75f5b00f7e1d7aa7b52957f51ff7b9be2c201628f867c36ad6", func := "codewright/codewrightlaw01.NatGcds", spec := "natGcds", recurses := true, named := ["math/bits.overflowError"], apart := false, narrowed := true }
def NatGcdsUptoSaid : Prop := natGcdsUptoRow.holds Try.pinned (OpenSpec.upto natGcdsSpec)

/-- 'codewrightlaw01.NatCommon', WHERE WHAT IT READS IS OF BULK AT MOST 1048576: true; the input reads as it did. -/
def natCommonUptoRow : OpenClaim := { program := "ythfpcebcfjlkmaa", sum := "83c85d1c0131cb75f5b00f7e1d7aa7b52957f51ff7b9be2c201628f867c36ad6", func := "codewright/codewrightlaw01.NatCommon", spec := "natCommon", named := ["math/bits.overflowError"], apart := false, narrowed := true }
def NatCommonUptoSaid : Prop := natCommonUptoRow.holds Try.pinned (OpenSpec.upto natCommonSpec)

/-- 'codewrightlaw01.NatPowers', WHERE WHAT IT READS IS OF BULK AT MOST 1048576: true; the input reads as it did. -/
def natPowersUptoRow : OpenClaim := { program := "ythfpcebcfjlkmaa", sum := "83c85d1c0131cb75f5b00f7e1d7aa7b52957f51ff7b9be2c201628f867c36ad6", func := "codewright/codewrightlaw01.NatPowers", spec := "natPowers", apart := false, narrowed := true }
def NatPowersUptoSaid : Prop := natPowersUptoRow.holds Try.pinned (OpenSpec.upto natPowersSpec)

/-- 'codewrightlaw01.NatExponents', WHERE WHAT IT READS IS OF BULK AT MOST 1048576: true; the input reads as it did. -/
def natExponentsUptoRow : OpenClaim := { program := "ythfpcebcfjlkmaa", sum := "83c85d1c0131cb75f5b00f7e1d7aa7b52957f51ff7b9be2c201628f867c36ad6", func := "codewright/codewrightlaw01.NatExponents", spec := "natExponents", recurses := true, apart := false, narrowed := true }
def NatExponentsUptoSaid : Prop := natExponentsUptoRow.holds Try.pinned (OpenSpec.upto natExponentsSpec)

/-- 'codewrightlaw01.NatBinomials', WHERE WHAT IT READS IS OF BULK AT MOST 1048576: true; the input reads as it did. -/
def natBinomialsUptoRow : OpenClaim := { program := "ythfpcebcfjlkmaa", sum := "83c85d1c0131cb75f5b00f7e1d7aa7b52957f51ff7b9be2c201628f867c36ad6", func := "codewright/codewrightlaw01.NatBinomials", spec := "natBinomials", named := ["math/bits.overflowError"], apart := false, narrowed := true }
def NatBinomialsUptoSaid : Prop := natBinomialsUptoRow.holds Try.pinned (OpenSpec.upto natBinomialsSpec)

/-- 'codewrightlaw01.NatPascal', WHERE WHAT IT READS IS OF BULK AT MOST 1048576: true; the input reads as it did. -/
def natPascalUptoRow : OpenClaim := { program := "ythfpcebcfjlkmaa", sum := "83c85d1c0131cb75f5b00f7e1d7aa7b52957f51ff7b9be2c201628f867c36ad6", func := "codewright/codewrightlaw01.NatPascal", spec := "natPascal", named := ["math/bits.overflowError"], apart := false, narrowed := true }
def NatPascalUptoSaid : Prop := natPascalUptoRow.holds Try.pinned (OpenSpec.upto natPascalSpec)

end Rows
end Go.Proofs.Ythfpcebcfjlkmaa
