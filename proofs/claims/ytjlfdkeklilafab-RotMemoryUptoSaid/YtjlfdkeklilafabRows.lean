/-
  No cell of these rows narrows 'for every input' (looked for: loops, veiled, ifaces, maps, wideKeys, modest, calm, conditions, laid).
  DERIVED. THE GIVEN ROWS OF THIS SEAT. 2 by the template 'for every input the law returns true; each argument reads behind the call as it read before'; 0 by the template 'total and deterministic' (their statements: YtjlfdkeklilafabTotals.lean).
  GIVEN WITH THE SEED: the statements are not yours to turn. If you find one false, say at which input.
  Laid BY PROGRAM, IN A SANDBOX (cutbox-rows.mjs): the forced cells as the released guide's own fill.sh prints them over the translation c29b6addba8d584d… (all of the seat's roots in one cut). By AI agents, Wed Nov 11 2026. No macro, syntax, notation, axiom, sorry.
-/
import Derived.Test.YtjlfdkeklilafabChecked
import GoSem.Claim
import GoSem.ClaimJoined
import GoSem.ClaimMapViews
import Derived.JoinedTies
import Derived.KernelRfl
namespace Go.Proofs.Ytjlfdkeklilafab
/- THE CELL 'sum', in the pinned program and in every row, IS THE sha256 OF THE DUMP (.gsa) THAT YtjlfdkeklilafabProg.lean LOADS. Nothing in Lean hashes anything: it is a label: what it is worth is what the hold of that sum in a sandbox is worth. -/
noncomputable def Try.pinned : Pinned := { name := "ytjlfdkeklilafab", sum := "c29b6addba8d584d3c061847476b0afcbfcc39efbf024fa2f846a9ec1dc4a201", checked := Try.checked }
namespace Rows
def none {H : Type} : Left H := { results := [], args := [] }

/-- 'tangramlaw11.RotBack': WHATEVER THE INPUT: true; the input reads as it did. -/
def rotBackSpec : ChangeSpec := { name := "rotBack", fn := fun _ => fun
  | [d1, d2, d3] => { results := [.lit (.bool true)], args := [d1, d2, d3] }
  | _ => none }
def rotBackRow : OpenClaim := { program := "ytjlfdkeklilafab", sum := "c29b6addba8d584d3c061847476b0afcbfcc39efbf024fa2f846a9ec1dc4a201", func := "tangram/tangramlaw11.RotBack", spec := "rotBack", unfollowed := true, recurses := true, apart := false }
def RotBackSaid : Prop := rotBackRow.holds Try.pinned (OpenSpec.ofChange rotBackSpec)

/-- ITS FALSE NEIGHBOUR: 'it returns false'. Refute it at one input. -/
def rotBackWrong : ChangeSpec := { name := "rotBack", fn := fun _ => fun
  | [d1, d2, d3] => { results := [.lit (.bool false)], args := [d1, d2, d3] }
  | _ => none }
def RotBackWrongFalsely : Prop := rotBackRow.holds Try.pinned (OpenSpec.ofChange rotBackWrong)

/-- 'tangramlaw11.RotMemory': WHATEVER THE INPUT: true; the input reads as it did. -/
def rotMemorySpec : ChangeSpec := { name := "rotMemory", fn := fun _ => fun
  | [d1, d2] => { results := [.lit (.bool true)], args := [d1, d2] }
  | _ => none }
def rotMemoryRow : OpenClaim := { program := "ytjlfdkeklilafab", sum := "c29b6addba8d584d3c061847476b0afcbfcc39efbf024fa2f846a9ec1dc4a201", func := "tangram/tangramlaw11.RotMemory", spec := "rotMemory", unfollowed := true, recurses := true, apart := false }
def RotMemorySaid : Prop := rotMemoryRow.holds Try.pinned (OpenSpec.ofChange rotMemorySpec)

/-- ITS FALSE NEIGHBOUR: 'it returns false'. Refute it at one input. -/
def rotMemoryWrong : ChangeSpec := { name := "rotMemory", fn := fun _ => fun
  | [d1, d2] => { results := [.lit (.bool false)], args := [d1, d2] }
  | _ => none }
def RotMemoryWrongFalsely : Prop := rotMemoryRow.holds Try.pinned (OpenSpec.ofChange rotMemoryWrong)

/- THE SECOND FORM. 'bulk': how many values and letters a reading holds, each counted each time it is reached (what is shared counts as often as it is met; a slice's spare places count too). A statement '..UptoSaid' is the law's where the arguments, and the package variables that the reading takes, are together of bulk at most 1048576: NARROWER than '..Said'. Prove '..Said' where nothing that the law and all that it calls make is longer than what came in: it says more and counts as full. Else prove '..UptoSaid'. A law counts once. -/
mutual
def uptoBulk {H : Type} : DataW H → Nat
  | .lit (.string bytes) => bytes.length + 1
  | .lit _ => 1
  | .nil => 1
  | .ptr d => uptoBulk d + 1
  | .slice elems spare => uptoBulkAll elems + uptoBulkAll spare + 1
  | .agg parts => uptoBulkAll parts + 1
  | .iface _ d => uptoBulk d + 1
  | .map entries => uptoBulkEntries entries + 1
  | .held _ => 1
def uptoBulkAll {H : Type} : List (DataW H) → Nat
  | [] => 0
  | d :: r => uptoBulk d + uptoBulkAll r
def uptoBulkEntries {H : Type} : List (Lit × DataW H) → Nat
  | [] => 0
  | x :: r => uptoBulkEntry x + uptoBulkEntries r
def uptoBulkEntry {H : Type} : Lit × DataW H → Nat
  | (.string bytes, d) => bytes.length + uptoBulk d + 1
  | (_, d) => uptoBulk d + 1
 end
def uptoSmall : (H : Type) → List (DataW H) → Bool := fun _ ds => decide (uptoBulkAll ds ≤ 1048576)
def OpenSpec.upto (s : _root_.Go.ChangeSpec) : _root_.Go.OpenSpec := { _root_.Go.OpenSpec.ofChange s with cond := some uptoSmall }

/-- 'tangramlaw11.RotBack', WHERE WHAT IT READS IS OF BULK AT MOST 1048576: true; the input reads as it did. -/
def rotBackUptoRow : OpenClaim := { program := "ytjlfdkeklilafab", sum := "c29b6addba8d584d3c061847476b0afcbfcc39efbf024fa2f846a9ec1dc4a201", func := "tangram/tangramlaw11.RotBack", spec := "rotBack", unfollowed := true, recurses := true, apart := false, narrowed := true }
def RotBackUptoSaid : Prop := rotBackUptoRow.holds Try.pinned (OpenSpec.upto rotBackSpec)

/-- 'tangramlaw11.RotMemory', WHERE WHAT IT READS IS OF BULK AT MOST 1048576: true; the input reads as it did. -/
def rotMemoryUptoRow : OpenClaim := { program := "ytjlfdkeklilafab", sum := "c29b6addba8d584d3c061847476b0afcbfcc39efbf024fa2f846a9ec1dc4a201", func := "tangram/tangramlaw11.RotMemory", spec := "rotMemory", unfollowed := true, recurses := true, apart := false, narrowed := true }
def RotMemoryUptoSaid : Prop := rotMemoryUptoRow.holds Try.pinned (OpenSpec.upto rotMemorySpec)

end Rows
end Go.Proofs.Ytjlfdkeklilafab
