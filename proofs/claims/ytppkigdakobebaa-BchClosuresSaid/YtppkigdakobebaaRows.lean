/-
  No cell of these rows narrows 'for every input' (looked for: loops, veiled, ifaces, maps, wideKeys, modest, calm, conditions, laid).
  DERIVED. THE GIVEN ROWS OF THIS SEAT. 12 by the template 'for every input the law returns true; each argument reads behind the call as it read before'; 0 by the template 'total and deterministic' (their statements: YtppkigdakobebaaTotals.lean).
  GIVEN WITH THE SEED: the statements are not yours to turn. If you find one false, say at which input.
  Laid BY PROGRAM, IN A SANDBOX (cutbox-rows.mjs): the forced cells as the released guide's own fill.sh prints them over the translation d10f9237e2da9fdd… (all of the seat's roots in one cut). By AI agents, Wed Nov 11 2026. No macro, syntax, notation, axiom, sorry.
-/
import Derived.Test.YtppkigdakobebaaChecked
import GoSem.Claim
import GoSem.ClaimJoined
import GoSem.ClaimMapViews
import Derived.JoinedTies
import Derived.KernelRfl
namespace Go.Proofs.Ytppkigdakobebaa
/- THE CELL 'sum', in the pinned program and in every row, IS THE sha256 OF THE DUMP (.gsa) THAT YtppkigdakobebaaProg.lean LOADS. Nothing in Lean hashes anything: it is a label: what it is worth is what the hold of that sum in a sandbox is worth. -/
noncomputable def Try.pinned : Pinned := { name := "ytppkigdakobebaa", sum := "d10f9237e2da9fdd143ac537ef8bfe42102d82451614a0c2e58f966fd030841b", checked := Try.checked }
namespace Rows
def none {H : Type} : Left H := { results := [], args := [] }

/-- 'codewrightlaw17.BchRoots': WHATEVER THE INPUT: true; the input reads as it did. -/
def bchRootsSpec : ChangeSpec := { name := "bchRoots", fn := fun _ => fun
  | [d1, d2] => { results := [.lit (.bool true)], args := [d1, d2] }
  | _ => none }
def bchRootsRow : OpenClaim := { program := "ytppkigdakobebaa", sum := "d10f9237e2da9fdd143ac537ef8bfe42102d82451614a0c2e58f966fd030841b", func := "codewright/codewrightlaw17.BchRoots", spec := "bchRoots", unfollowed := true, recurses := true, apart := false }
def BchRootsSaid : Prop := bchRootsRow.holds Try.pinned (OpenSpec.ofChange bchRootsSpec)

/-- ITS FALSE NEIGHBOUR: 'it returns false'. Refute it at one input. -/
def bchRootsWrong : ChangeSpec := { name := "bchRoots", fn := fun _ => fun
  | [d1, d2] => { results := [.lit (.bool false)], args := [d1, d2] }
  | _ => none }
def BchRootsWrongFalsely : Prop := bchRootsRow.holds Try.pinned (OpenSpec.ofChange bchRootsWrong)

/-- 'codewrightlaw17.BchClosures': WHATEVER THE INPUT: true; the input reads as it did. -/
def bchClosuresSpec : ChangeSpec := { name := "bchClosures", fn := fun _ => fun
  | [d1, d2, d3] => { results := [.lit (.bool true)], args := [d1, d2, d3] }
  | _ => none }
def bchClosuresRow : OpenClaim := { program := "ytppkigdakobebaa", sum := "d10f9237e2da9fdd143ac537ef8bfe42102d82451614a0c2e58f966fd030841b", func := "codewright/codewrightlaw17.BchClosures", spec := "bchClosures", unfollowed := true, recurses := true, apart := false }
def BchClosuresSaid : Prop := bchClosuresRow.holds Try.pinned (OpenSpec.ofChange bchClosuresSpec)

/-- ITS FALSE NEIGHBOUR: 'it returns false'. Refute it at one input. -/
def bchClosuresWrong : ChangeSpec := { name := "bchClosures", fn := fun _ => fun
  | [d1, d2, d3] => { results := [.lit (.bool false)], args := [d1, d2, d3] }
  | _ => none }
def BchClosuresWrongFalsely : Prop := bchClosuresRow.holds Try.pinned (OpenSpec.ofChange bchClosuresWrong)

/-- 'codewrightlaw17.BchChecks': WHATEVER THE INPUT: true; the input reads as it did. -/
def bchChecksSpec : ChangeSpec := { name := "bchChecks", fn := fun _ => fun
  | [d1, d2, d3] => { results := [.lit (.bool true)], args := [d1, d2, d3] }
  | _ => none }
def bchChecksRow : OpenClaim := { program := "ytppkigdakobebaa", sum := "d10f9237e2da9fdd143ac537ef8bfe42102d82451614a0c2e58f966fd030841b", func := "codewright/codewrightlaw17.BchChecks", spec := "bchChecks", apart := false }
def BchChecksSaid : Prop := bchChecksRow.holds Try.pinned (OpenSpec.ofChange bchChecksSpec)

/-- ITS FALSE NEIGHBOUR: 'it returns false'. Refute it at one input. -/
def bchChecksWrong : ChangeSpec := { name := "bchChecks", fn := fun _ => fun
  | [d1, d2, d3] => { results := [.lit (.bool false)], args := [d1, d2, d3] }
  | _ => none }
def BchChecksWrongFalsely : Prop := bchChecksRow.holds Try.pinned (OpenSpec.ofChange bchChecksWrong)

/-- 'codewrightlaw17.BchBounds': WHATEVER THE INPUT: true; the input reads as it did. -/
def bchBoundsSpec : ChangeSpec := { name := "bchBounds", fn := fun _ => fun
  | [d1, d2] => { results := [.lit (.bool true)], args := [d1, d2] }
  | _ => none }
def bchBoundsRow : OpenClaim := { program := "ytppkigdakobebaa", sum := "d10f9237e2da9fdd143ac537ef8bfe42102d82451614a0c2e58f966fd030841b", func := "codewright/codewrightlaw17.BchBounds", spec := "bchBounds", apart := false }
def BchBoundsSaid : Prop := bchBoundsRow.holds Try.pinned (OpenSpec.ofChange bchBoundsSpec)

/-- ITS FALSE NEIGHBOUR: 'it returns false'. Refute it at one input. -/
def bchBoundsWrong : ChangeSpec := { name := "bchBounds", fn := fun _ => fun
  | [d1, d2] => { results := [.lit (.bool false)], args := [d1, d2] }
  | _ => none }
def BchBoundsWrongFalsely : Prop := bchBoundsRow.holds Try.pinned (OpenSpec.ofChange bchBoundsWrong)

/-- 'codewrightlaw17.BchMultiplies': WHATEVER THE INPUT: true; the input reads as it did. -/
def bchMultipliesSpec : ChangeSpec := { name := "bchMultiplies", fn := fun _ => fun
  | [d1, d2, d3, d4] => { results := [.lit (.bool true)], args := [d1, d2, d3, d4] }
  | _ => none }
def bchMultipliesRow : OpenClaim := { program := "ytppkigdakobebaa", sum := "d10f9237e2da9fdd143ac537ef8bfe42102d82451614a0c2e58f966fd030841b", func := "codewright/codewrightlaw17.BchMultiplies", spec := "bchMultiplies", apart := false }
def BchMultipliesSaid : Prop := bchMultipliesRow.holds Try.pinned (OpenSpec.ofChange bchMultipliesSpec)

/-- ITS FALSE NEIGHBOUR: 'it returns false'. Refute it at one input. -/
def bchMultipliesWrong : ChangeSpec := { name := "bchMultiplies", fn := fun _ => fun
  | [d1, d2, d3, d4] => { results := [.lit (.bool false)], args := [d1, d2, d3, d4] }
  | _ => none }
def BchMultipliesWrongFalsely : Prop := bchMultipliesRow.holds Try.pinned (OpenSpec.ofChange bchMultipliesWrong)

/-- 'codewrightlaw18.GrsChecks': WHATEVER THE INPUT: true; the input reads as it did. -/
def grsChecksSpec : ChangeSpec := { name := "grsChecks", fn := fun _ => fun
  | [d] => { results := [.lit (.bool true)], args := [d] }
  | _ => none }
def grsChecksRow : OpenClaim := { program := "ytppkigdakobebaa", sum := "d10f9237e2da9fdd143ac537ef8bfe42102d82451614a0c2e58f966fd030841b", func := "codewright/codewrightlaw18.GrsChecks", spec := "grsChecks", unfollowed := true, recurses := true, apart := false }
def GrsChecksSaid : Prop := grsChecksRow.holds Try.pinned (OpenSpec.ofChange grsChecksSpec)

/-- ITS FALSE NEIGHBOUR: 'it returns false'. Refute it at one input. -/
def grsChecksWrong : ChangeSpec := { name := "grsChecks", fn := fun _ => fun
  | [d] => { results := [.lit (.bool false)], args := [d] }
  | _ => none }
def GrsChecksWrongFalsely : Prop := grsChecksRow.holds Try.pinned (OpenSpec.ofChange grsChecksWrong)

/-- 'codewrightlaw18.GrsStandard': WHATEVER THE INPUT: true; the input reads as it did. -/
def grsStandardSpec : ChangeSpec := { name := "grsStandard", fn := fun _ => fun
  | [d1, d2, d3] => { results := [.lit (.bool true)], args := [d1, d2, d3] }
  | _ => none }
def grsStandardRow : OpenClaim := { program := "ytppkigdakobebaa", sum := "d10f9237e2da9fdd143ac537ef8bfe42102d82451614a0c2e58f966fd030841b", func := "codewright/codewrightlaw18.GrsStandard", spec := "grsStandard", unfollowed := true, recurses := true, apart := false }
def GrsStandardSaid : Prop := grsStandardRow.holds Try.pinned (OpenSpec.ofChange grsStandardSpec)

/-- ITS FALSE NEIGHBOUR: 'it returns false'. Refute it at one input. -/
def grsStandardWrong : ChangeSpec := { name := "grsStandard", fn := fun _ => fun
  | [d1, d2, d3] => { results := [.lit (.bool false)], args := [d1, d2, d3] }
  | _ => none }
def GrsStandardWrongFalsely : Prop := grsStandardRow.holds Try.pinned (OpenSpec.ofChange grsStandardWrong)

/-- 'codewrightlaw18.GrsEncodes': WHATEVER THE INPUT: true; the input reads as it did. -/
def grsEncodesSpec : ChangeSpec := { name := "grsEncodes", fn := fun _ => fun
  | [d1, d2] => { results := [.lit (.bool true)], args := [d1, d2] }
  | _ => none }
def grsEncodesRow : OpenClaim := { program := "ytppkigdakobebaa", sum := "d10f9237e2da9fdd143ac537ef8bfe42102d82451614a0c2e58f966fd030841b", func := "codewright/codewrightlaw18.GrsEncodes", spec := "grsEncodes", unfollowed := true, recurses := true, apart := false }
def GrsEncodesSaid : Prop := grsEncodesRow.holds Try.pinned (OpenSpec.ofChange grsEncodesSpec)

/-- ITS FALSE NEIGHBOUR: 'it returns false'. Refute it at one input. -/
def grsEncodesWrong : ChangeSpec := { name := "grsEncodes", fn := fun _ => fun
  | [d1, d2] => { results := [.lit (.bool false)], args := [d1, d2] }
  | _ => none }
def GrsEncodesWrongFalsely : Prop := grsEncodesRow.holds Try.pinned (OpenSpec.ofChange grsEncodesWrong)

/-- 'codewrightlaw18.GrsDuals': WHATEVER THE INPUT: true; the input reads as it did. -/
def grsDualsSpec : ChangeSpec := { name := "grsDuals", fn := fun _ => fun
  | [d] => { results := [.lit (.bool true)], args := [d] }
  | _ => none }
def grsDualsRow : OpenClaim := { program := "ytppkigdakobebaa", sum := "d10f9237e2da9fdd143ac537ef8bfe42102d82451614a0c2e58f966fd030841b", func := "codewright/codewrightlaw18.GrsDuals", spec := "grsDuals", unfollowed := true, recurses := true, apart := false }
def GrsDualsSaid : Prop := grsDualsRow.holds Try.pinned (OpenSpec.ofChange grsDualsSpec)

/-- ITS FALSE NEIGHBOUR: 'it returns false'. Refute it at one input. -/
def grsDualsWrong : ChangeSpec := { name := "grsDuals", fn := fun _ => fun
  | [d] => { results := [.lit (.bool false)], args := [d] }
  | _ => none }
def GrsDualsWrongFalsely : Prop := grsDualsRow.holds Try.pinned (OpenSpec.ofChange grsDualsWrong)

/-- 'codewrightlaw18.GrsOrthogonal': WHATEVER THE INPUT: true; the input reads as it did. -/
def grsOrthogonalSpec : ChangeSpec := { name := "grsOrthogonal", fn := fun _ => fun
  | [d1, d2] => { results := [.lit (.bool true)], args := [d1, d2] }
  | _ => none }
def grsOrthogonalRow : OpenClaim := { program := "ytppkigdakobebaa", sum := "d10f9237e2da9fdd143ac537ef8bfe42102d82451614a0c2e58f966fd030841b", func := "codewright/codewrightlaw18.GrsOrthogonal", spec := "grsOrthogonal", unfollowed := true, recurses := true, apart := false }
def GrsOrthogonalSaid : Prop := grsOrthogonalRow.holds Try.pinned (OpenSpec.ofChange grsOrthogonalSpec)

/-- ITS FALSE NEIGHBOUR: 'it returns false'. Refute it at one input. -/
def grsOrthogonalWrong : ChangeSpec := { name := "grsOrthogonal", fn := fun _ => fun
  | [d1, d2] => { results := [.lit (.bool false)], args := [d1, d2] }
  | _ => none }
def GrsOrthogonalWrongFalsely : Prop := grsOrthogonalRow.holds Try.pinned (OpenSpec.ofChange grsOrthogonalWrong)

/-- 'codewrightlaw18.GrsSeparates': WHATEVER THE INPUT: true; the input reads as it did. -/
def grsSeparatesSpec : ChangeSpec := { name := "grsSeparates", fn := fun _ => fun
  | [d1, d2] => { results := [.lit (.bool true)], args := [d1, d2] }
  | _ => none }
def grsSeparatesRow : OpenClaim := { program := "ytppkigdakobebaa", sum := "d10f9237e2da9fdd143ac537ef8bfe42102d82451614a0c2e58f966fd030841b", func := "codewright/codewrightlaw18.GrsSeparates", spec := "grsSeparates", unfollowed := true, recurses := true, apart := false }
def GrsSeparatesSaid : Prop := grsSeparatesRow.holds Try.pinned (OpenSpec.ofChange grsSeparatesSpec)

/-- ITS FALSE NEIGHBOUR: 'it returns false'. Refute it at one input. -/
def grsSeparatesWrong : ChangeSpec := { name := "grsSeparates", fn := fun _ => fun
  | [d1, d2] => { results := [.lit (.bool false)], args := [d1, d2] }
  | _ => none }
def GrsSeparatesWrongFalsely : Prop := grsSeparatesRow.holds Try.pinned (OpenSpec.ofChange grsSeparatesWrong)

/-- 'codewrightlaw18.GrsLightest': WHATEVER THE INPUT: true; the input reads as it did. -/
def grsLightestSpec : ChangeSpec := { name := "grsLightest", fn := fun _ => fun
  | [d1, d2] => { results := [.lit (.bool true)], args := [d1, d2] }
  | _ => none }
def grsLightestRow : OpenClaim := { program := "ytppkigdakobebaa", sum := "d10f9237e2da9fdd143ac537ef8bfe42102d82451614a0c2e58f966fd030841b", func := "codewright/codewrightlaw18.GrsLightest", spec := "grsLightest", unfollowed := true, recurses := true, apart := false }
def GrsLightestSaid : Prop := grsLightestRow.holds Try.pinned (OpenSpec.ofChange grsLightestSpec)

/-- ITS FALSE NEIGHBOUR: 'it returns false'. Refute it at one input. -/
def grsLightestWrong : ChangeSpec := { name := "grsLightest", fn := fun _ => fun
  | [d1, d2] => { results := [.lit (.bool false)], args := [d1, d2] }
  | _ => none }
def GrsLightestWrongFalsely : Prop := grsLightestRow.holds Try.pinned (OpenSpec.ofChange grsLightestWrong)

/- THE SECOND FORM. 'bulk': how many values and letters a reading holds, each counted each time it is reached (what is shared counts as often as it is met; a slice's spare places count too). A statement '..UptoSaid' is the law's where the arguments, and the package variables that the reading takes, are together of bulk at most 1048576: NARROWER than '..Said'. Prove '..Said' where nothing that the law and all that it calls make is longer than what came in: it says more and counts as full. Else prove '..UptoSaid'. A law counts once. -/
mutual
def uptoBulk {H : Type} : DataW H → Nat
  | .lit (.string bytes) => bytes.length + 1
  | .lit _ => 1
  | .nil => 1
  | .ptr d => uptoBulk d + 1
  | .slice elems spare => uptoBulkAll elems + uptoBulkAll spare + 1
  | .agg parts => uptoBulkAll parts + 1
  | .iface _ d => uptoBulk d + 1
  | .map entries => uptoBulkEntries entries + 1
  | .held _ => 1
def uptoBulkAll {H : Type} : List (DataW H) → Nat
  | [] => 0
  | d :: r => uptoBulk d + uptoBulkAll r
def uptoBulkEntries {H : Type} : List (Lit × DataW H) → Nat
  | [] => 0
  | x :: r => uptoBulkEntry x + uptoBulkEntries r
def uptoBulkEntry {H : Type} : Lit × DataW H → Nat
  | (.string bytes, d) => bytes.length + uptoBulk d + 1
  | (_, d) => uptoBulk d + 1
 end
def uptoSmall : (H : Type) → List (DataW H) → Bool := fun _ ds => decide (uptoBulkAll ds ≤ 1048576)
def OpenSpec.upto (s : _root_.Go.ChangeSpec) : _root_.Go.OpenSpec := { _root_.Go.OpenSpec.ofChange s with cond := some uptoSmall }

/-- 'codewrightlaw17.BchRoots', WHERE WHAT IT READS IS OF BULK AT MOST 1048576: true; the input reads as it did. -/
def bchRootsUptoRow : OpenClaim := { program := "ytppkigdakobebaa", sum := "d10f9237e2da9fdd143ac537ef8bfe42102d82451614a0c2e58f966fd030841b", func := "codewright/codewrightlaw17.BchRoots", spec := "bchRoots", unfollowed := true, recurses := true, apart := false, narrowed := true }
def BchRootsUptoSaid : Prop := bchRootsUptoRow.holds Try.pinned (OpenSpec.upto bchRootsSpec)

/-- 'codewrightlaw17.BchClosures', WHERE WHAT IT READS IS OF BULK AT MOST 1048576: true; the input reads as it did. -/
def bchClosuresUptoRow : OpenClaim := { program := "ytppkigdakobebaa", sum := "d10f9237e2da9fdd143ac537ef8bfe42102d82451614a0c2e58f966fd030841b", func := "codewright/codewrightlaw17.BchClosures", spec := "bchClosures", unfollowed := true, recurses := true, apart := false, narrowed := true }
def BchClosuresUptoSaid : Prop := bchClosuresUptoRow.holds Try.pinned (OpenSpec.upto bchClosuresSpec)

/-- 'codewrightlaw17.BchChecks', WHERE WHAT IT READS IS OF BULK AT MOST 1048576: true; the input reads as it did. -/
def bchChecksUptoRow : OpenClaim := { program := "ytppkigdakobebaa", sum := "d10f9237e2da9fdd143ac537ef8bfe42102d82451614a0c2e58f966fd030841b", func := "codewright/codewrightlaw17.BchChecks", spec := "bchChecks", apart := false, narrowed := true }
def BchChecksUptoSaid : Prop := bchChecksUptoRow.holds Try.pinned (OpenSpec.upto bchChecksSpec)

/-- 'codewrightlaw17.BchBounds', WHERE WHAT IT READS IS OF BULK AT MOST 1048576: true; the input reads as it did. -/
def bchBoundsUptoRow : OpenClaim := { program := "ytppkigdakobebaa", sum := "d10f9237e2da9fdd143ac537ef8bfe42102d82451614a0c2e58f966fd030841b", func := "codewright/codewrightlaw17.BchBounds", spec := "bchBounds", apart := false, narrowed := true }
def BchBoundsUptoSaid : Prop := bchBoundsUptoRow.holds Try.pinned (OpenSpec.upto bchBoundsSpec)

/-- 'codewrightlaw17.BchMultiplies', WHERE WHAT IT READS IS OF BULK AT MOST 1048576: true; the input reads as it did. -/
def bchMultipliesUptoRow : OpenClaim := { program := "ytppkigdakobebaa", sum := "d10f9237e2da9fdd143ac537ef8bfe42102d82451614a0c2e58f966fd030841b", func := "codewright/codewrightlaw17.BchMultiplies", spec := "bchMultiplies", apart := false, narrowed := true }
def BchMultipliesUptoSaid : Prop := bchMultipliesUptoRow.holds Try.pinned (OpenSpec.upto bchMultipliesSpec)

/-- 'codewrightlaw18.GrsChecks', WHERE WHAT IT READS IS OF BULK AT MOST 1048576: true; the input reads as it did. -/
def grsChecksUptoRow : OpenClaim := { program := "ytppkigdakobebaa", sum := "d10f9237e2da9fdd143ac537ef8bfe42102d82451614a0c2e58f966fd030841b", func := "codewright/codewrightlaw18.GrsChecks", spec := "grsChecks", unfollowed := true, recurses := true, apart := false, narrowed := true }
def GrsChecksUptoSaid : Prop := grsChecksUptoRow.holds Try.pinned (OpenSpec.upto grsChecksSpec)

/-- 'codewrightlaw18.GrsStandard', WHERE WHAT IT READS IS OF BULK AT MOST 1048576: true; the input reads as it did. -/
def grsStandardUptoRow : OpenClaim := { program := "ytppkigdakobebaa", sum := "d10f9237e2da9fdd143ac537ef8bfe42102d82451614a0c2e58f966fd030841b", func := "codewright/codewrightlaw18.GrsStandard", spec := "grsStandard", unfollowed := true, recurses := true, apart := false, narrowed := true }
def GrsStandardUptoSaid : Prop := grsStandardUptoRow.holds Try.pinned (OpenSpec.upto grsStandardSpec)

/-- 'codewrightlaw18.GrsEncodes', WHERE WHAT IT READS IS OF BULK AT MOST 1048576: true; the input reads as it did. -/
def grsEncodesUptoRow : OpenClaim := { program := "ytppkigdakobebaa", sum := "d10f9237e2da9fdd143ac537ef8bfe42102d82451614a0c2e58f966fd030841b", func := "codewright/codewrightlaw18.GrsEncodes", spec := "grsEncodes", unfollowed := true, recurses := true, apart := false, narrowed := true }
def GrsEncodesUptoSaid : Prop := grsEncodesUptoRow.holds Try.pinned (OpenSpec.upto grsEncodesSpec)

/-- 'codewrightlaw18.GrsDuals', WHERE WHAT IT READS IS OF BULK AT MOST 1048576: true; the input reads as it did. -/
def grsDualsUptoRow : OpenClaim := { program := "ytppkigdakobebaa", sum := "d10f9237e2da9fdd143ac537ef8bfe42102d82451614a0c2e58f966fd030841b", func := "codewright/codewrightlaw18.GrsDuals", spec := "grsDuals", unfollowed := true, recurses := true, apart := false, narrowed := true }
def GrsDualsUptoSaid : Prop := grsDualsUptoRow.holds Try.pinned (OpenSpec.upto grsDualsSpec)

/-- 'codewrightlaw18.GrsOrthogonal', WHERE WHAT IT READS IS OF BULK AT MOST 1048576: true; the input reads as it did. -/
def grsOrthogonalUptoRow : OpenClaim := { program := "ytppkigdakobebaa", sum := "d10f9237e2da9fdd143ac537ef8bfe42102d82451614a0c2e58f966fd030841b", func := "codewright/codewrightlaw18.GrsOrthogonal", spec := "grsOrthogonal", unfollowed := true, recurses := true, apart := false, narrowed := true }
def GrsOrthogonalUptoSaid : Prop := grsOrthogonalUptoRow.holds Try.pinned (OpenSpec.upto grsOrthogonalSpec)

/-- 'codewrightlaw18.GrsSeparates', WHERE WHAT IT READS IS OF BULK AT MOST 1048576: true; the input reads as it did. -/
def grsSeparatesUptoRow : OpenClaim := { program := "ytppkigdakobebaa", sum := "d10f9237e2da9fdd143ac537ef8bfe42102d82451614a0c2e58f966fd030841b", func := "codewright/codewrightlaw18.GrsSeparates", spec := "grsSeparates", unfollowed := true, recurses := true, apart := false, narrowed := true }
def GrsSeparatesUptoSaid : Prop := grsSeparatesUptoRow.holds Try.pinned (OpenSpec.upto grsSeparatesSpec)

/-- 'codewrightlaw18.GrsLightest', WHERE WHAT IT READS IS OF BULK AT MOST 1048576: true; the input reads as it did. -/
def grsLightestUptoRow : OpenClaim := { program := "ytppkigdakobebaa", sum := "d10f9237e2da9fdd143ac537ef8bfe42102d82451614a0c2e58f966fd030841b", func := "codewright/codewrightlaw18.GrsLightest", spec := "grsLightest", unfollowed := true, recurses := true, apart := false, narrowed := true }
def GrsLightestUptoSaid : Prop := grsLightestUptoRow.holds Try.pinned (OpenSpec.upto grsLightestSpec)

end Rows
end Go.Proofs.Ytppkigdakobebaa
