/-
  No cell of these rows narrows 'for every input' (looked for: loops, veiled, ifaces, maps, wideKeys, modest, calm, conditions, laid).
  DERIVED. THE GIVEN ROWS OF THIS SEAT. 4 by the template 'for every input the law returns true; each argument reads behind the call as it read before'; 0 by the template 'total and deterministic' (their statements: YtlnkcebfnamdcaaTotals.lean).
  GIVEN WITH THE SEED: the statements are not yours to turn. If you find one false, say at which input.
  Laid BY PROGRAM, IN A SANDBOX (cutbox-rows.mjs): the forced cells as the released guide's own fill.sh prints them over the translation 0a0715258fc8b4f1… (all of the seat's roots in one cut). By AI agents, Wed Nov 11 2026. No macro, syntax, notation, axiom, sorry.
-/
import Derived.Test.YtlnkcebfnamdcaaChecked
import GoSem.Claim
import GoSem.ClaimJoined
import GoSem.ClaimMapViews
import Derived.JoinedTies
import Derived.KernelRfl
namespace Go.Proofs.Ytlnkcebfnamdcaa
/- THE CELL 'sum', in the pinned program and in every row, IS THE sha256 OF THE DUMP (.gsa) THAT YtlnkcebfnamdcaaProg.lean LOADS. Nothing in Lean hashes anything: it is a label: what it is worth is what the hold of that sum in a sandbox is worth. -/
noncomputable def Try.pinned : Pinned := { name := "ytlnkcebfnamdcaa", sum := "0a0715258fc8b4f132eda7ff1a4996b083fa7c75536566fe5fd07bbd891bc26c", checked := Try.checked }
namespace Rows
def none {H : Type} : Left H := { results := [], args := [] }

/-- 'tangramlaw04.CsrAnswers': WHATEVER THE INPUT: true; the input reads as it did. -/
def csrAnswersSpec : ChangeSpec := { name := "csrAnswers", fn := fun _ => fun
  | [d1, d2] => { results := [.lit (.bool true)], args := [d1, d2] }
  | _ => none }
def csrAnswersRow : OpenClaim := { program := "ytlnkcebfnamdcaa", sum := "0a0715258fc8b4f132eda7ff1a4996b083fa7c75536566fe5fd07bbd891bc26c", func := "tangram/tangramlaw04.CsrAnswers", spec := "csrAnswers", unfollowed := true, recurses := true, apart := false }
def CsrAnswersSaid : Prop := csrAnswersRow.holds Try.pinned (OpenSpec.ofChange csrAnswersSpec)

/-- ITS FALSE NEIGHBOUR: 'it returns false'. Refute it at one input. -/
def csrAnswersWrong : ChangeSpec := { name := "csrAnswers", fn := fun _ => fun
  | [d1, d2] => { results := [.lit (.bool false)], args := [d1, d2] }
  | _ => none }
def CsrAnswersWrongFalsely : Prop := csrAnswersRow.holds Try.pinned (OpenSpec.ofChange csrAnswersWrong)

/-- 'tangramlaw04.CsrShape': WHATEVER THE INPUT: true; the input reads as it did. -/
def csrShapeSpec : ChangeSpec := { name := "csrShape", fn := fun _ => fun
  | [d] => { results := [.lit (.bool true)], args := [d] }
  | _ => none }
def csrShapeRow : OpenClaim := { program := "ytlnkcebfnamdcaa", sum := "0a0715258fc8b4f132eda7ff1a4996b083fa7c75536566fe5fd07bbd891bc26c", func := "tangram/tangramlaw04.CsrShape", spec := "csrShape", unfollowed := true, recurses := true, apart := false }
def CsrShapeSaid : Prop := csrShapeRow.holds Try.pinned (OpenSpec.ofChange csrShapeSpec)

/-- ITS FALSE NEIGHBOUR: 'it returns false'. Refute it at one input. -/
def csrShapeWrong : ChangeSpec := { name := "csrShape", fn := fun _ => fun
  | [d] => { results := [.lit (.bool false)], args := [d] }
  | _ => none }
def CsrShapeWrongFalsely : Prop := csrShapeRow.holds Try.pinned (OpenSpec.ofChange csrShapeWrong)

/-- 'tangramlaw04.CsrIter': WHATEVER THE INPUT: true; the input reads as it did. -/
def csrIterSpec : ChangeSpec := { name := "csrIter", fn := fun _ => fun
  | [d1, d2, d3] => { results := [.lit (.bool true)], args := [d1, d2, d3] }
  | _ => none }
def csrIterRow : OpenClaim := { program := "ytlnkcebfnamdcaa", sum := "0a0715258fc8b4f132eda7ff1a4996b083fa7c75536566fe5fd07bbd891bc26c", func := "tangram/tangramlaw04.CsrIter", spec := "csrIter", unfollowed := true, recurses := true, apart := false }
def CsrIterSaid : Prop := csrIterRow.holds Try.pinned (OpenSpec.ofChange csrIterSpec)

/-- ITS FALSE NEIGHBOUR: 'it returns false'. Refute it at one input. -/
def csrIterWrong : ChangeSpec := { name := "csrIter", fn := fun _ => fun
  | [d1, d2, d3] => { results := [.lit (.bool false)], args := [d1, d2, d3] }
  | _ => none }
def CsrIterWrongFalsely : Prop := csrIterRow.holds Try.pinned (OpenSpec.ofChange csrIterWrong)

/-- 'tangramlaw04.CsrKept': WHATEVER THE INPUT: true; the input reads as it did. -/
def csrKeptSpec : ChangeSpec := { name := "csrKept", fn := fun _ => fun
  | [d1, d2, d3] => { results := [.lit (.bool true)], args := [d1, d2, d3] }
  | _ => none }
def csrKeptRow : OpenClaim := { program := "ytlnkcebfnamdcaa", sum := "0a0715258fc8b4f132eda7ff1a4996b083fa7c75536566fe5fd07bbd891bc26c", func := "tangram/tangramlaw04.CsrKept", spec := "csrKept", unfollowed := true, recurses := true, apart := false }
def CsrKeptSaid : Prop := csrKeptRow.holds Try.pinned (OpenSpec.ofChange csrKeptSpec)

/-- ITS FALSE NEIGHBOUR: 'it returns false'. Refute it at one input. -/
def csrKeptWrong : ChangeSpec := { name := "csrKept", fn := fun _ => fun
  | [d1, d2, d3] => { results := [.lit (.bool false)], args := [d1, d2, d3] }
  | _ => none }
def CsrKeptWrongFalsely : Prop := csrKeptRow.holds Try.pinned (OpenSpec.ofChange csrKeptWrong)

/- THE SECOND FORM. 'bulk': how many values and letters a reading holds, each counted each time it is reached (what is shared counts as often as it is met; a slice's spare places count too). A statement '..UptoSaid' is the law's where the arguments, and the package variables that the reading takes, are together of bulk at most 1048576: NARROWER than '..Said'. Prove '..Said' where nothing that the law and all that it calls make is longer than what came in: it says more and counts as full. Else prove '..UptoSaid'. A law counts once. -/
mutual
def uptoBulk {H : Type} : DataW H → Nat
  | .lit (.string bytes) => bytes.length + 1
  | .lit _ => 1
  | .nil => 1
  | .ptr d => uptoBulk d + 1
  | .slice elems spare => uptoBulkAll elems + uptoBulkAll spare + 1
  | .agg parts => uptoBulkAll parts + 1
  | .iface _ d => uptoBulk d + 1
  | .map entries => uptoBulkEntries entries + 1
  | .held _ => 1
def uptoBulkAll {H : Type} : List (DataW H) → Nat
  | [] => 0
  | d :: r => uptoBulk d + uptoBulkAll r
def uptoBulkEntries {H : Type} : List (Lit × DataW H) → Nat
  | [] => 0
  | x :: r => uptoBulkEntry x + uptoBulkEntries r
def uptoBulkEntry {H : Type} : Lit × DataW H → Nat
  | (.string bytes, d) => bytes.length + uptoBulk d + 1
  | (_, d) => uptoBulk d + 1
 end
def uptoSmall : (H : Type) → List (DataW H) → Bool := fun _ ds => decide (uptoBulkAll ds ≤ 1048576)
def OpenSpec.upto (s : _root_.Go.ChangeSpec) : _root_.Go.OpenSpec := { _root_.Go.OpenSpec.ofChange s with cond := some uptoSmall }

/-- 'tangramlaw04.CsrAnswers', WHERE WHAT IT READS IS OF BULK AT MOST 1048576: true; the input reads as it did. -/
def csrAnswersUptoRow : OpenClaim := { program := "ytlnkcebfnamdcaa", sum := "0a0715258fc8b4f132eda7ff1a4996b083fa7c75536566fe5fd07bbd891bc26c", func := "tangram/tangramlaw04.CsrAnswers", spec := "csrAnswers", unfollowed := true, recurses := true, apart := false, narrowed := true }
def CsrAnswersUptoSaid : Prop := csrAnswersUptoRow.holds Try.pinned (OpenSpec.upto csrAnswersSpec)

/-- 'tangramlaw04.CsrShape', WHERE WHAT IT READS IS OF BULK AT MOST 1048576: true; the input reads as it did. -/
def csrShapeUptoRow : OpenClaim := { program := "ytlnkcebfnamdcaa", sum := "0a0715258fc8b4f132eda7ff1a4996b083fa7c75536566fe5fd07bbd891bc26c", func := "tangram/tangramlaw04.CsrShape", spec := "csrShape", unfollowed := true, recurses := true, apart := false, narrowed := true }
def CsrShapeUptoSaid : Prop := csrShapeUptoRow.holds Try.pinned (OpenSpec.upto csrShapeSpec)

/-- 'tangramlaw04.CsrIter', WHERE WHAT IT READS IS OF BULK AT MOST 1048576: true; the input reads as it did. -/
def csrIterUptoRow : OpenClaim := { program := "ytlnkcebfnamdcaa", sum := "0a0715258fc8b4f132eda7ff1a4996b083fa7c75536566fe5fd07bbd891bc26c", func := "tangram/tangramlaw04.CsrIter", spec := "csrIter", unfollowed := true, recurses := true, apart := false, narrowed := true }
def CsrIterUptoSaid : Prop := csrIterUptoRow.holds Try.pinned (OpenSpec.upto csrIterSpec)

/-- 'tangramlaw04.CsrKept', WHERE WHAT IT READS IS OF BULK AT MOST 1048576: true; the input reads as it did. -/
def csrKeptUptoRow : OpenClaim := { program := "ytlnkcebfnamdcaa", sum := "0a0715258fc8b4f132eda7ff1a4996b083fa7c75536566fe5fd07bbd891bc26c", func := "tangram/tangramlaw04.CsrKept", spec := "csrKept", unfollowed := true, recurses := true, apart := false, narrowed := true }
def CsrKeptUptoSaid : Prop := csrKeptUptoRow.holds Try.pinned (OpenSpec.upto csrKeptSpec)

end Rows
end Go.Proofs.Ytlnkcebfnamdcaa
