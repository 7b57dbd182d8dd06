/-
  No cell of these rows narrows 'for every input' (looked for: loops, veiled, ifaces, maps, wideKeys, modest, calm, conditions, laid).
  DERIVED. THE GIVEN ROWS OF THIS SEAT. 3 by the template 'for every input the law returns true; each argument reads behind the call as it read before'; 0 by the template 'total and deterministic' (their statements: YtbdmnolcmeojbaaTotals.lean).
  GIVEN WITH THE SEED: the statements are not yours to turn. If you find one false, say at which input.
  Laid BY PROGRAM, IN A SANDBOX (cutbox-rows.mjs): the forced cells as the released guide's own fill.sh prints them over the translation afc515f0f518421a… (all of the seat's roots in one cut). By AI agents, Wed Nov 11 2026. No macro, syntax, notation, axiom, sorry.
-/
import Derived.Test.YtbdmnolcmeojbaaChecked
import GoSem.Claim
import GoSem.ClaimJoined
import GoSem.ClaimMapViews
import Derived.JoinedTies
import Derived.KernelRfl
namespace Go.Proofs.Ytbdmnolcmeojbaa
/- THE CELL 'sum', in the pinned program and in every row, IS THE sha256 OF THE DUMP (.gsa) THAT YtbdmnolcmeojbaaProg.lean LOADS. Nothing in Lean hashes anything: it is a label: what it is worth is what the hold of that sum in a sandbox is worth. -/
noncomputable def Try.pinned : Pinned := { name := "ytbdmnolcmeojbaa", sum := "afc515f0f518421a9eeb990d0a93a418606ae963741ebffe4ea6abc6adc35ac9", checked := Try.checked }
namespace Rows
def none {H : Type} : Left H := { results := [], args := [] }

/-- 'codewrightlaw08.DlogTables': WHATEVER THE INPUT: true; the input reads as it did. -/
def dlogTablesSpec : ChangeSpec := { name := "dlogTables", fn := fun _ => fun
  | [d] => { results := [.lit (.bool true)], args := [d] }
  | _ => none }
def dlogTablesRow : OpenClaim := { program := "ytbdmnolcmeojbaa", sum := "afc515f0f518421a9eeb990d0a93a418606ae963741ebffe4ea6abc6adc35ac9", func := "codewright/codewrightlaw08.DlogTables", spec := "dlogTables", unfollowed := true, recurses := true, apart := false }
def DlogTablesSaid : Prop := dlogTablesRow.holds Try.pinned (OpenSpec.ofChange dlogTablesSpec)

/-- ITS FALSE NEIGHBOUR: 'it returns false'. Refute it at one input. -/
def dlogTablesWrong : ChangeSpec := { name := "dlogTables", fn := fun _ => fun
  | [d] => { results := [.lit (.bool false)], args := [d] }
  | _ => none }
def DlogTablesWrongFalsely : Prop := dlogTablesRow.holds Try.pinned (OpenSpec.ofChange dlogTablesWrong)

/-- 'codewrightlaw08.DlogProducts': WHATEVER THE INPUT: true; the input reads as it did. -/
def dlogProductsSpec : ChangeSpec := { name := "dlogProducts", fn := fun _ => fun
  | [d] => { results := [.lit (.bool true)], args := [d] }
  | _ => none }
def dlogProductsRow : OpenClaim := { program := "ytbdmnolcmeojbaa", sum := "afc515f0f518421a9eeb990d0a93a418606ae963741ebffe4ea6abc6adc35ac9", func := "codewright/codewrightlaw08.DlogProducts", spec := "dlogProducts", unfollowed := true, recurses := true, apart := false }
def DlogProductsSaid : Prop := dlogProductsRow.holds Try.pinned (OpenSpec.ofChange dlogProductsSpec)

/-- ITS FALSE NEIGHBOUR: 'it returns false'. Refute it at one input. -/
def dlogProductsWrong : ChangeSpec := { name := "dlogProducts", fn := fun _ => fun
  | [d] => { results := [.lit (.bool false)], args := [d] }
  | _ => none }
def DlogProductsWrongFalsely : Prop := dlogProductsRow.holds Try.pinned (OpenSpec.ofChange dlogProductsWrong)

/-- 'codewrightlaw08.DlogZech': WHATEVER THE INPUT: true; the input reads as it did. -/
def dlogZechSpec : ChangeSpec := { name := "dlogZech", fn := fun _ => fun
  | [d] => { results := [.lit (.bool true)], args := [d] }
  | _ => none }
def dlogZechRow : OpenClaim := { program := "ytbdmnolcmeojbaa", sum := "afc515f0f518421a9eeb990d0a93a418606ae963741ebffe4ea6abc6adc35ac9", func := "codewright/codewrightlaw08.DlogZech", spec := "dlogZech", unfollowed := true, recurses := true, apart := false }
def DlogZechSaid : Prop := dlogZechRow.holds Try.pinned (OpenSpec.ofChange dlogZechSpec)

/-- ITS FALSE NEIGHBOUR: 'it returns false'. Refute it at one input. -/
def dlogZechWrong : ChangeSpec := { name := "dlogZech", fn := fun _ => fun
  | [d] => { results := [.lit (.bool false)], args := [d] }
  | _ => none }
def DlogZechWrongFalsely : Prop := dlogZechRow.holds Try.pinned (OpenSpec.ofChange dlogZechWrong)

/- THE SECOND FORM. 'bulk': how many values and letters a reading holds, each counted each time it is reached (what is shared counts as often as it is met; a slice's spare places count too). A statement '..UptoSaid' is the law's where the arguments, and the package variables that the reading takes, are together of bulk at most 1048576: NARROWER than '..Said'. Prove '..Said' where nothing that the law and all that it calls make is longer than what came in: it says more and counts as full. Else prove '..UptoSaid'. A law counts once. -/
mutual
def uptoBulk {H : Type} : DataW H → Nat
  | .lit (.string bytes) => bytes.length + 1
  | .lit _ => 1
  | .nil => 1
  | .ptr d => uptoBulk d + 1
  | .slice elems spare => uptoBulkAll elems + uptoBulkAll spare + 1
  | .agg parts => uptoBulkAll parts + 1
  | .iface _ d => uptoBulk d + 1
  | .map entries => uptoBulkEntries entries + 1
  | .held _ => 1
def uptoBulkAll {H : Type} : List (DataW H) → Nat
  | [] => 0
  | d :: r => uptoBulk d + uptoBulkAll r
def uptoBulkEntries {H : Type} : List (Lit × DataW H) → Nat
  | [] => 0
  | x :: r => uptoBulkEntry x + uptoBulkEntries r
def uptoBulkEntry {H : Type} : Lit × DataW H → Nat
  | (.string bytes, d) => bytes.length + uptoBulk d + 1
  | (_, d) => uptoBulk d + 1
 end
def uptoSmall : (H : Type) → List (DataW H) → Bool := fun _ ds => decide (uptoBulkAll ds ≤ 1048576)
def OpenSpec.upto (s : _root_.Go.ChangeSpec) : _root_.Go.OpenSpec := { _root_.Go.OpenSpec.ofChange s with cond := some uptoSmall }

/-- 'codewrightlaw08.DlogTables', WHERE WHAT IT READS IS OF BULK AT MOST 1048576: true; the input reads as it did. -/
def dlogTablesUptoRow : OpenClaim := { program := "ytbdmnolcmeojbaa", sum := "afc515f0f518421a9eeb990d0a93a418606ae963741ebffe4ea6abc6adc35ac9", func := "codewright/codewrightlaw08.DlogTables", spec := "dlogTables", unfollowed := true, recurses := true, apart := false, narrowed := true }
def DlogTablesUptoSaid : Prop := dlogTablesUptoRow.holds Try.pinned (OpenSpec.upto dlogTablesSpec)

/-- 'codewrightlaw08.DlogProducts', WHERE WHAT IT READS IS OF BULK AT MOST 1048576: true; the input reads as it did. -/
def dlogProductsUptoRow : OpenClaim := { program := "ytbdmnolcmeojbaa", sum := "afc515f0f518421a9eeb990d0a93a418606ae963741ebffe4ea6abc6adc35ac9", func := "codewright/codewrightlaw08.DlogProducts", spec := "dlogProducts", unfollowed := true, recurses := true, apart := false, narrowed := true }
def DlogProductsUptoSaid : Prop := dlogProductsUptoRow.holds Try.pinned (OpenSpec.upto dlogProductsSpec)

/-- 'codewrightlaw08.DlogZech', WHERE WHAT IT READS IS OF BULK AT MOST 1048576: true; the input reads as it did. -/
def dlogZechUptoRow : OpenClaim := { program := "ytbdmnolcmeojbaa", sum := "afc515f0f518421a9eeb990d0a93a418606ae963741ebffe4ea6abc6adc35ac9", func := "codewright/codewrightlaw08.DlogZech", spec := "dlogZech", unfollowed := true, recurses := true, apart := false, narrowed := true }
def DlogZechUptoSaid : Prop := dlogZechUptoRow.holds Try.pinned (OpenSpec.upto dlogZechSpec)

end Rows
end Go.Proofs.Ytbdmnolcmeojbaa
