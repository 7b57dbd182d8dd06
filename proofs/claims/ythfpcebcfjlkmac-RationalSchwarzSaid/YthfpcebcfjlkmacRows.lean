/-
  No cell of these rows narrows 'for every input' (looked for: loops, veiled, ifaces, maps, wideKeys, modest, calm, conditions, laid).
  DERIVED. THE GIVEN ROWS OF THIS SEAT. 3 by the template 'for every input the law returns true; each argument reads behind the call as it read before'; 0 by the template 'total and deterministic' (their statements: YthfpcebcfjlkmacTotals.lean).
  GIVEN WITH THE SEED: the statements are not yours to turn. If you find one false, say at which input.
  Laid BY PROGRAM, IN A SANDBOX (cutbox-rows.mjs): the forced cells as the released guide's own fill.sh prints them over the translation a2eefff98997cf31… (all of the seat's roots in one cut). By AI agents, Wed Nov 11 2026. No macro, syntax, notation, axiom, sorry.
-/
import Derived.Test.YthfpcebcfjlkmacChecked
import GoSem.Claim
import GoSem.ClaimJoined
import GoSem.ClaimMapViews
import Derived.JoinedTies
import Derived.KernelRfl
namespace Go.Proofs.Ythfpcebcfjlkmac
/- THE CELL 'sum', in the pinned program and in every row, IS THE sha256 OF THE DUMP (.gsa) THAT YthfpcebcfjlkmacProg.lean LOADS. Nothing in Lean hashes anything: it is a label: what it is worth is what the hold of that sum in a sandbox is worth. -/
noncomputable def Try.pinned : Pinned := { name := "ythfpcebcfjlkmac", sum := "a2eefff98997cf3121ec5e2c74b97e5a1a1a5ba206f6e5099b4d82fb063eb54e", checked := Try.checked }
namespace Rows
def none {H : Type} : Left H := { results := [], args := [] }

/-- 'codewrightlaw02.RationalFloors': WHATEVER THE INPUT: true; the input reads as it did. -/
def rationalFloorsSpec : ChangeSpec := { name := "rationalFloors", fn := fun _ => fun
  | [d] => { results := [.lit (.bool true)], args := [d] }
  | _ => none }
def rationalFloorsRow : OpenClaim := { program := "ythfpcebcfjlkmac", sum := "a2eefff98997cf3121ec5e2c74b97e5a1a1a5ba206f6e5099b4d82fb063eb54e", func := "codewright/codewrightlaw02.RationalFloors", spec := "rationalFloors", unfollowed := true, recurses := true, named := ["math/bits.overflowError"], apart := false }
def RationalFloorsSaid : Prop := rationalFloorsRow.holds Try.pinned (OpenSpec.ofChange rationalFloorsSpec)

/-- ITS FALSE NEIGHBOUR: 'it returns false'. Refute it at one input. -/
def rationalFloorsWrong : ChangeSpec := { name := "rationalFloors", fn := fun _ => fun
  | [d] => { results := [.lit (.bool false)], args := [d] }
  | _ => none }
def RationalFloorsWrongFalsely : Prop := rationalFloorsRow.holds Try.pinned (OpenSpec.ofChange rationalFloorsWrong)

/-- 'codewrightlaw02.RationalDots': WHATEVER THE INPUT: true; the input reads as it did. -/
def rationalDotsSpec : ChangeSpec := { name := "rationalDots", fn := fun _ => fun
  | [d1, d2] => { results := [.lit (.bool true)], args := [d1, d2] }
  | _ => none }
def rationalDotsRow : OpenClaim := { program := "ythfpcebcfjlkmac", sum := "a2eefff98997cf3121ec5e2c74b97e5a1a1a5ba206f6e5099b4d82fb063eb54e", func := "codewright/codewrightlaw02.RationalDots", spec := "rationalDots", recurses := true, named := ["math/bits.overflowError"], apart := false }
def RationalDotsSaid : Prop := rationalDotsRow.holds Try.pinned (OpenSpec.ofChange rationalDotsSpec)

/-- ITS FALSE NEIGHBOUR: 'it returns false'. Refute it at one input. -/
def rationalDotsWrong : ChangeSpec := { name := "rationalDots", fn := fun _ => fun
  | [d1, d2] => { results := [.lit (.bool false)], args := [d1, d2] }
  | _ => none }
def RationalDotsWrongFalsely : Prop := rationalDotsRow.holds Try.pinned (OpenSpec.ofChange rationalDotsWrong)

/-- 'codewrightlaw02.RationalSchwarz': WHATEVER THE INPUT: true; the input reads as it did. -/
def rationalSchwarzSpec : ChangeSpec := { name := "rationalSchwarz", fn := fun _ => fun
  | [d1, d2] => { results := [.lit (.bool true)], args := [d1, d2] }
  | _ => none }
def rationalSchwarzRow : OpenClaim := { program := "ythfpcebcfjlkmac", sum := "a2eefff98997cf3121ec5e2c74b97e5a1a1a5ba206f6e5099b4d82fb063eb54e", func := "codewright/codewrightlaw02.RationalSchwarz", spec := "rationalSchwarz", unfollowed := true, recurses := true, named := ["math/bits.overflowError"], apart := false }
def RationalSchwarzSaid : Prop := rationalSchwarzRow.holds Try.pinned (OpenSpec.ofChange rationalSchwarzSpec)

/-- ITS FALSE NEIGHBOUR: 'it returns false'. Refute it at one input. -/
def rationalSchwarzWrong : ChangeSpec := { name := "rationalSchwarz", fn := fun _ => fun
  | [d1, d2] => { results := [.lit (.bool false)], args := [d1, d2] }
  | _ => none }
def RationalSchwarzWrongFalsely : Prop := rationalSchwarzRow.holds Try.pinned (OpenSpec.ofChange rationalSchwarzWrong)

/- THE SECOND FORM. 'bulk': how many values and letters a reading holds, each counted each time it is reached (what is shared counts as often as it is met; a slice's spare places count too). A statement '..UptoSaid' is the law's where the arguments, and the package variables that the reading takes, are together of bulk at most 1048576: NARROWER than '..Said'. Prove '..Said' where nothing that the law and all that it calls make is longer than what came in: it says more and counts as full. Else prove '..UptoSaid'. A law counts once. -/
mutual
def uptoBulk {H : Type} : DataW H → Nat
  | .lit (.string bytes) => bytes.length + 1
  | .lit _ => 1
  | .nil => 1
  | .ptr d => uptoBulk d + 1
  | .slice elems spare => uptoBulkAll elems + uptoBulkAll spare + 1
  | .agg parts => uptoBulkAll parts + 1
  | .iface _ d => uptoBulk d + 1
  | .map entries => uptoBulkEntries entries + 1
  | .held _ => 1
def uptoBulkAll {H : Type} : List (DataW H) → Nat
  | [] => 0
  | d :: r => uptoBulk d + uptoBulkAll r
def uptoBulkEntries {H : Type} : List (Lit × DataW H) → Nat
  | [] => 0
  | x :: r => uptoBulkEntry x + uptoBulkEntries r
def uptoBulkEntry {H : Type} : Lit × DataW H → Nat
  | (.string bytes, d) => bytes.length + uptoBulk d + 1
  | (_, d) => uptoBulk d + 1
 end
def uptoSmall : (H : Type) → List (DataW H) → Bool := fun _ ds => decide (uptoBulkAll ds ≤ 1048576)
def OpenSpec.upto (s : _root_.Go.ChangeSpec) : _root_.Go.OpenSpec := { _root_.Go.OpenSpec.ofChange s with cond := some uptoSmall }

/-- 'codewrightlaw02.RationalFloors', WHERE WHAT IT READS IS OF BULK AT MOST 1048576: true; the input reads as it did. -/
def rationalFloorsUptoRow : OpenClaim := { program := "ythfpcebcfjlkmac", sum := "a2eefff98997cf3121ec5e2c74b97e5a1a1a5ba206f6e5099b4d82fb063eb54e", func := "codewright/codewrightlaw02.RationalFloors", spec := "rationalFloors", unfollowed := true, recurses := true, named := ["math/bits.overflowError"], apart := false, narrowed := true }
def RationalFloorsUptoSaid : Prop := rationalFloorsUptoRow.holds Try.pinned (OpenSpec.upto rationalFloorsSpec)

/-- 'codewrightlaw02.RationalDots', WHERE WHAT IT READS IS OF BULK AT MOST 1048576: true; the input reads as it did. -/
def rationalDotsUptoRow : OpenClaim := { program := "ythfpcebcfjlkmac", sum := "a2eefff98997cf3121ec5e2c74b97e5a1a1a5ba206f6e5099b4d82fb063eb54e", func := "codewright/codewrightlaw02.RationalDots", spec := "rationalDots", recurses := true, named := ["math/bits.overflowError"], apart := false, narrowed := true }
def RationalDotsUptoSaid : Prop := rationalDotsUptoRow.holds Try.pinned (OpenSpec.upto rationalDotsSpec)

/-- 'codewrightlaw02.RationalSchwarz', WHERE WHAT IT READS IS OF BULK AT MOST 1048576: true; the input reads as it did. -/
def rationalSchwarzUptoRow : OpenClaim := { program := "ythfpcebcfjlkmac", sum := "a2eefff98997cf3121ec5e2c74b97e5a1a1a5ba206f6e5099b4d82fb063eb54e", func := "codewright/codewrightlaw02.RationalSchwarz", spec := "rationalSchwarz", unfollowed := true, recurses := true, named := ["math/bits.overflowError"], apart := false, narrowed := true }
def RationalSchwarzUptoSaid : Prop := rationalSchwarzUptoRow.holds Try.pinned (OpenSpec.upto rationalSchwarzSpec)

end Rows
end Go.Proofs.Ythfpcebcfjlkmac
