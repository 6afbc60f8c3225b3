/-
  No cell of these rows narrows 'for every input' (looked for: loops, veiled, ifaces, maps, wideKeys, modest, calm, conditions, laid).
  DERIVED. THE GIVEN ROWS OF THIS SEAT. 3 by the template 'for every input the law returns true; each argument reads behind the call as it read before'; 0 by the template 'total and deterministic' (their statements: YtmgoahbloppdmaaGreatTotals.lean).
  GIVEN WITH THE SEED: the statements are not yours to turn. If you find one false, say at which input.
  Laid BY PROGRAM, IN A SANDBOX (cutbox-rows.mjs): the forced cells as the released guide's own fill.sh prints them over the translation 7703e31882b9799e… (all of the seat's roots in one cut). By AI agents, Wed Nov 11 2026. No macro, syntax, notation, axiom, sorry.
-/
import Derived.Test.YtmgoahbloppdmaaGreatChecked
import GoSem.Claim
import GoSem.ClaimJoined
import GoSem.ClaimMapViews
import Derived.JoinedTies
import Derived.KernelRfl
namespace Go.Proofs.YtmgoahbloppdmaaGreat
/- THE CELL 'sum', in the pinned program and in every row, IS THE sha256 OF THE DUMP (.gsa) THAT YtmgoahbloppdmaaGreatProg.lean LOADS. Nothing in Lean hashes anything: it is a label: what it is worth is what the hold of that sum in a sandbox is worth. -/
noncomputable def Tryz.pinned : Pinned := { name := "ytmgoahbloppdmaagreat", sum := "7703e31882b9799e63c169bcac0845dfea9627cc703e0b45567a43e9cfa81b25", checked := Tryz.checked }
namespace Rows
def none {H : Type} : Left H := { results := [], args := [] }

/-- 'tangramlaw08.LowOf': WHATEVER THE INPUT: true; the input reads as it did. -/
def lowOfSpec : ChangeSpec := { name := "lowOf", fn := fun _ => fun
  | [d1, d2] => { results := [.lit (.bool true)], args := [d1, d2] }
  | _ => none }
def lowOfRow : OpenClaim := { program := "ytmgoahbloppdmaagreat", sum := "7703e31882b9799e63c169bcac0845dfea9627cc703e0b45567a43e9cfa81b25", func := "tangram/tangramlaw08.LowOf", spec := "lowOf", unfollowed := true, recurses := true, apart := false }
def LowOfSaid : Prop := lowOfRow.holds Tryz.pinned (OpenSpec.ofChange lowOfSpec)

/-- ITS FALSE NEIGHBOUR: 'it returns false'. Refute it at one input. -/
def lowOfWrong : ChangeSpec := { name := "lowOf", fn := fun _ => fun
  | [d1, d2] => { results := [.lit (.bool false)], args := [d1, d2] }
  | _ => none }
def LowOfWrongFalsely : Prop := lowOfRow.holds Tryz.pinned (OpenSpec.ofChange lowOfWrong)

/-- 'tangramlaw08.LowReturns': WHATEVER THE INPUT: true; the input reads as it did. -/
def lowReturnsSpec : ChangeSpec := { name := "lowReturns", fn := fun _ => fun
  | [d1, d2, d3] => { results := [.lit (.bool true)], args := [d1, d2, d3] }
  | _ => none }
def lowReturnsRow : OpenClaim := { program := "ytmgoahbloppdmaagreat", sum := "7703e31882b9799e63c169bcac0845dfea9627cc703e0b45567a43e9cfa81b25", func := "tangram/tangramlaw08.LowReturns", spec := "lowReturns", unfollowed := true, recurses := true, apart := false }
def LowReturnsSaid : Prop := lowReturnsRow.holds Tryz.pinned (OpenSpec.ofChange lowReturnsSpec)

/-- ITS FALSE NEIGHBOUR: 'it returns false'. Refute it at one input. -/
def lowReturnsWrong : ChangeSpec := { name := "lowReturns", fn := fun _ => fun
  | [d1, d2, d3] => { results := [.lit (.bool false)], args := [d1, d2, d3] }
  | _ => none }
def LowReturnsWrongFalsely : Prop := lowReturnsRow.holds Tryz.pinned (OpenSpec.ofChange lowReturnsWrong)

/-- 'tangramlaw08.LowMemory': WHATEVER THE INPUT: true; the input reads as it did. -/
def lowMemorySpec : ChangeSpec := { name := "lowMemory", fn := fun _ => fun
  | [d1, d2, d3] => { results := [.lit (.bool true)], args := [d1, d2, d3] }
  | _ => none }
def lowMemoryRow : OpenClaim := { program := "ytmgoahbloppdmaagreat", sum := "7703e31882b9799e63c169bcac0845dfea9627cc703e0b45567a43e9cfa81b25", func := "tangram/tangramlaw08.LowMemory", spec := "lowMemory", unfollowed := true, recurses := true, apart := false }
def LowMemorySaid : Prop := lowMemoryRow.holds Tryz.pinned (OpenSpec.ofChange lowMemorySpec)

/-- ITS FALSE NEIGHBOUR: 'it returns false'. Refute it at one input. -/
def lowMemoryWrong : ChangeSpec := { name := "lowMemory", fn := fun _ => fun
  | [d1, d2, d3] => { results := [.lit (.bool false)], args := [d1, d2, d3] }
  | _ => none }
def LowMemoryWrongFalsely : Prop := lowMemoryRow.holds Tryz.pinned (OpenSpec.ofChange lowMemoryWrong)

/- THE SECOND FORM. 'bulk': how many values and letters a reading holds, each counted each time it is reached (what is shared counts as often as it is met; a slice's spare places count too). A statement '..UptoSaid' is the law's where the arguments, and the package variables that the reading takes, are together of bulk at most 1048576: NARROWER than '..Said'. Prove '..Said' where nothing that the law and all that it calls make is longer than what came in: it says more and counts as full. Else prove '..UptoSaid'. A law counts once. -/
mutual
def uptoBulk {H : Type} : DataW H → Nat
  | .lit (.string bytes) => bytes.length + 1
  | .lit _ => 1
  | .nil => 1
  | .ptr d => uptoBulk d + 1
  | .slice elems spare => uptoBulkAll elems + uptoBulkAll spare + 1
  | .agg parts => uptoBulkAll parts + 1
  | .iface _ d => uptoBulk d + 1
  | .map entries => uptoBulkEntries entries + 1
  | .held _ => 1
def uptoBulkAll {H : Type} : List (DataW H) → Nat
  | [] => 0
  | d :: r => uptoBulk d + uptoBulkAll r
def uptoBulkEntries {H : Type} : List (Lit × DataW H) → Nat
  | [] => 0
  | x :: r => uptoBulkEntry x + uptoBulkEntries r
def uptoBulkEntry {H : Type} : Lit × DataW H → Nat
  | (.string bytes, d) => bytes.length + uptoBulk d + 1
  | (_, d) => uptoBulk d + 1
 end
def uptoSmall : (H : Type) → List (DataW H) → Bool := fun _ ds => decide (uptoBulkAll ds ≤ 1048576)
def OpenSpec.upto (s : _root_.Go.ChangeSpec) : _root_.Go.OpenSpec := { _root_.Go.OpenSpec.ofChange s with cond := some uptoSmall }

/-- 'tangramlaw08.LowOf', WHERE WHAT IT READS IS OF BULK AT MOST 1048576: true; the input reads as it did. -/
def lowOfUptoRow : OpenClaim := { program := "ytmgoahbloppdmaagreat", sum := "7703e31882b9799e63c169bcac0845dfea9627cc703e0b45567a43e9cfa81b25", func := "tangram/tangramlaw08.LowOf", spec := "lowOf", unfollowed := true, recurses := true, apart := false, narrowed := true }
def LowOfUptoSaid : Prop := lowOfUptoRow.holds Tryz.pinned (OpenSpec.upto lowOfSpec)

/-- 'tangramlaw08.LowReturns', WHERE WHAT IT READS IS OF BULK AT MOST 1048576: true; the input reads as it did. -/
def lowReturnsUptoRow : OpenClaim := { program := "ytmgoahbloppdmaagreat", sum := "7703e31882b9799e63c169bcac0845dfea9627cc703e0b45567a43e9cfa81b25", func := "tangram/tangramlaw08.LowReturns", spec := "lowReturns", unfollowed := true, recurses := true, apart := false, narrowed := true }
def LowReturnsUptoSaid : Prop := lowReturnsUptoRow.holds Tryz.pinned (OpenSpec.upto lowReturnsSpec)

/-- 'tangramlaw08.LowMemory', WHERE WHAT IT READS IS OF BULK AT MOST 1048576: true; the input reads as it did. -/
def lowMemoryUptoRow : OpenClaim := { program := "ytmgoahbloppdmaagreat", sum := "7703e31882b9799e63c169bcac0845dfea9627cc703e0b45567a43e9cfa81b25", func := "tangram/tangramlaw08.LowMemory", spec := "lowMemory", unfollowed := true, recurses := true, apart := false, narrowed := true }
def LowMemoryUptoSaid : Prop := lowMemoryUptoRow.holds Tryz.pinned (OpenSpec.upto lowMemorySpec)

end Rows
end Go.Proofs.YtmgoahbloppdmaaGreat
