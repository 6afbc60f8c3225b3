/-
  No cell of these rows narrows 'for every input' (looked for: loops, veiled, ifaces, maps, wideKeys, modest, calm, conditions, laid).
  DERIVED. THE GIVEN ROWS OF THIS SEAT. 6 by the template 'for every input the law returns true; each argument reads behind the call as it read before'; 0 by the template 'total and deterministic' (their statements: YtponmjipbcmlhaaTotals.lean).
  GIVEN WITH THE SEED: the statements are not yours to turn. If you find one false, say at which input.
  Laid BY PROGRAM, IN A SANDBOX (cutbox-rows.mjs): the forced cells as the released guide's own fill.sh prints them over the translation 628b2d88d186391b… (all of the seat's roots in one cut). By AI agents, Wed Nov 11 2026. No macro, syntax, notation, axiom, sorry.
-/
import Derived.Test.YtponmjipbcmlhaaChecked
import GoSem.Claim
import GoSem.ClaimJoined
import GoSem.ClaimMapViews
import Derived.JoinedTies
import Derived.KernelRfl
namespace Go.Proofs.Ytponmjipbcmlhaa
/- THE CELL 'sum', in the pinned program and in every row, IS THE sha256 OF THE DUMP (.gsa) THAT YtponmjipbcmlhaaProg.lean LOADS. Nothing in Lean hashes anything: it is a label: what it is worth is what the hold of that sum in a sandbox is worth. -/
noncomputable def Try.pinned : Pinned := { name := "ytponmjipbcmlhaa", sum := "628b2d88d186391b5a3b5628cd58e2e62d3dc233ac64850ef4019f614f2686dd", checked := Try.checked }
namespace Rows
def none {H : Type} : Left H := { results := [], args := [] }

/-- 'tangramlaw07.DfsWalks': WHATEVER THE INPUT: true; the input reads as it did. -/
def dfsWalksSpec : ChangeSpec := { name := "dfsWalks", fn := fun _ => fun
  | [d] => { results := [.lit (.bool true)], args := [d] }
  | _ => none }
def dfsWalksRow : OpenClaim := { program := "ytponmjipbcmlhaa", sum := "628b2d88d186391b5a3b5628cd58e2e62d3dc233ac64850ef4019f614f2686dd", func := "tangram/tangramlaw07.DfsWalks", spec := "dfsWalks", recurses := true, apart := false }
def DfsWalksSaid : Prop := dfsWalksRow.holds Try.pinned (OpenSpec.ofChange dfsWalksSpec)

/-- ITS FALSE NEIGHBOUR: 'it returns false'. Refute it at one input. -/
def dfsWalksWrong : ChangeSpec := { name := "dfsWalks", fn := fun _ => fun
  | [d] => { results := [.lit (.bool false)], args := [d] }
  | _ => none }
def DfsWalksWrongFalsely : Prop := dfsWalksRow.holds Try.pinned (OpenSpec.ofChange dfsWalksWrong)

/-- 'tangramlaw07.DfsForest': WHATEVER THE INPUT: true; the input reads as it did. -/
def dfsForestSpec : ChangeSpec := { name := "dfsForest", fn := fun _ => fun
  | [d] => { results := [.lit (.bool true)], args := [d] }
  | _ => none }
def dfsForestRow : OpenClaim := { program := "ytponmjipbcmlhaa", sum := "628b2d88d186391b5a3b5628cd58e2e62d3dc233ac64850ef4019f614f2686dd", func := "tangram/tangramlaw07.DfsForest", spec := "dfsForest", apart := false }
def DfsForestSaid : Prop := dfsForestRow.holds Try.pinned (OpenSpec.ofChange dfsForestSpec)

/-- ITS FALSE NEIGHBOUR: 'it returns false'. Refute it at one input. -/
def dfsForestWrong : ChangeSpec := { name := "dfsForest", fn := fun _ => fun
  | [d] => { results := [.lit (.bool false)], args := [d] }
  | _ => none }
def DfsForestWrongFalsely : Prop := dfsForestRow.holds Try.pinned (OpenSpec.ofChange dfsForestWrong)

/-- 'tangramlaw07.DfsValid': WHATEVER THE INPUT: true; the input reads as it did. -/
def dfsValidSpec : ChangeSpec := { name := "dfsValid", fn := fun _ => fun
  | [d1, d2] => { results := [.lit (.bool true)], args := [d1, d2] }
  | _ => none }
def dfsValidRow : OpenClaim := { program := "ytponmjipbcmlhaa", sum := "628b2d88d186391b5a3b5628cd58e2e62d3dc233ac64850ef4019f614f2686dd", func := "tangram/tangramlaw07.DfsValid", spec := "dfsValid", apart := false }
def DfsValidSaid : Prop := dfsValidRow.holds Try.pinned (OpenSpec.ofChange dfsValidSpec)

/-- ITS FALSE NEIGHBOUR: 'it returns false'. Refute it at one input. -/
def dfsValidWrong : ChangeSpec := { name := "dfsValid", fn := fun _ => fun
  | [d1, d2] => { results := [.lit (.bool false)], args := [d1, d2] }
  | _ => none }
def DfsValidWrongFalsely : Prop := dfsValidRow.holds Try.pinned (OpenSpec.ofChange dfsValidWrong)

/-- 'tangramlaw07.DfsBack': WHATEVER THE INPUT: true; the input reads as it did. -/
def dfsBackSpec : ChangeSpec := { name := "dfsBack", fn := fun _ => fun
  | [d1, d2] => { results := [.lit (.bool true)], args := [d1, d2] }
  | _ => none }
def dfsBackRow : OpenClaim := { program := "ytponmjipbcmlhaa", sum := "628b2d88d186391b5a3b5628cd58e2e62d3dc233ac64850ef4019f614f2686dd", func := "tangram/tangramlaw07.DfsBack", spec := "dfsBack", apart := false }
def DfsBackSaid : Prop := dfsBackRow.holds Try.pinned (OpenSpec.ofChange dfsBackSpec)

/-- ITS FALSE NEIGHBOUR: 'it returns false'. Refute it at one input. -/
def dfsBackWrong : ChangeSpec := { name := "dfsBack", fn := fun _ => fun
  | [d1, d2] => { results := [.lit (.bool false)], args := [d1, d2] }
  | _ => none }
def DfsBackWrongFalsely : Prop := dfsBackRow.holds Try.pinned (OpenSpec.ofChange dfsBackWrong)

/-- 'tangramlaw07.DfsAbove': WHATEVER THE INPUT: true; the input reads as it did. -/
def dfsAboveSpec : ChangeSpec := { name := "dfsAbove", fn := fun _ => fun
  | [d] => { results := [.lit (.bool true)], args := [d] }
  | _ => none }
def dfsAboveRow : OpenClaim := { program := "ytponmjipbcmlhaa", sum := "628b2d88d186391b5a3b5628cd58e2e62d3dc233ac64850ef4019f614f2686dd", func := "tangram/tangramlaw07.DfsAbove", spec := "dfsAbove", apart := false }
def DfsAboveSaid : Prop := dfsAboveRow.holds Try.pinned (OpenSpec.ofChange dfsAboveSpec)

/-- ITS FALSE NEIGHBOUR: 'it returns false'. Refute it at one input. -/
def dfsAboveWrong : ChangeSpec := { name := "dfsAbove", fn := fun _ => fun
  | [d] => { results := [.lit (.bool false)], args := [d] }
  | _ => none }
def DfsAboveWrongFalsely : Prop := dfsAboveRow.holds Try.pinned (OpenSpec.ofChange dfsAboveWrong)

/-- 'tangramlaw07.DfsOwn': WHATEVER THE INPUT: true; the input reads as it did. -/
def dfsOwnSpec : ChangeSpec := { name := "dfsOwn", fn := fun _ => fun
  | [d] => { results := [.lit (.bool true)], args := [d] }
  | _ => none }
def dfsOwnRow : OpenClaim := { program := "ytponmjipbcmlhaa", sum := "628b2d88d186391b5a3b5628cd58e2e62d3dc233ac64850ef4019f614f2686dd", func := "tangram/tangramlaw07.DfsOwn", spec := "dfsOwn", apart := false }
def DfsOwnSaid : Prop := dfsOwnRow.holds Try.pinned (OpenSpec.ofChange dfsOwnSpec)

/-- ITS FALSE NEIGHBOUR: 'it returns false'. Refute it at one input. -/
def dfsOwnWrong : ChangeSpec := { name := "dfsOwn", fn := fun _ => fun
  | [d] => { results := [.lit (.bool false)], args := [d] }
  | _ => none }
def DfsOwnWrongFalsely : Prop := dfsOwnRow.holds Try.pinned (OpenSpec.ofChange dfsOwnWrong)

/- THE SECOND FORM. 'bulk': how many values and letters a reading holds, each counted each time it is reached (what is shared counts as often as it is met; a slice's spare places count too). A statement '..UptoSaid' is the law's where the arguments, and the package variables that the reading takes, are together of bulk at most 1048576: NARROWER than '..Said'. Prove '..Said' where nothing that the law and all that it calls make is longer than what came in: it says more and counts as full. Else prove '..UptoSaid'. A law counts once. -/
mutual
def uptoBulk {H : Type} : DataW H → Nat
  | .lit (.string bytes) => bytes.length + 1
  | .lit _ => 1
  | .nil => 1
  | .ptr d => uptoBulk d + 1
  | .slice elems spare => uptoBulkAll elems + uptoBulkAll spare + 1
  | .agg parts => uptoBulkAll parts + 1
  | .iface _ d => uptoBulk d + 1
  | .map entries => uptoBulkEntries entries + 1
  | .held _ => 1
def uptoBulkAll {H : Type} : List (DataW H) → Nat
  | [] => 0
  | d :: r => uptoBulk d + uptoBulkAll r
def uptoBulkEntries {H : Type} : List (Lit × DataW H) → Nat
  | [] => 0
  | x :: r => uptoBulkEntry x + uptoBulkEntries r
def uptoBulkEntry {H : Type} : Lit × DataW H → Nat
  | (.string bytes, d) => bytes.length + uptoBulk d + 1
  | (_, d) => uptoBulk d + 1
 end
def uptoSmall : (H : Type) → List (DataW H) → Bool := fun _ ds => decide (uptoBulkAll ds ≤ 1048576)
def OpenSpec.upto (s : _root_.Go.ChangeSpec) : _root_.Go.OpenSpec := { _root_.Go.OpenSpec.ofChange s with cond := some uptoSmall }

/-- 'tangramlaw07.DfsWalks', WHERE WHAT IT READS IS OF BULK AT MOST 1048576: true; the input reads as it did. -/
def dfsWalksUptoRow : OpenClaim := { program := "ytponmjipbcmlhaa", sum := "628b2d88d186391b5a3b5628cd58e2e62d3dc233ac64850ef4019f614f2686dd", func := "tangram/tangramlaw07.DfsWalks", spec := "dfsWalks", recurses := true, apart := false, narrowed := true }
def DfsWalksUptoSaid : Prop := dfsWalksUptoRow.holds Try.pinned (OpenSpec.upto dfsWalksSpec)

/-- 'tangramlaw07.DfsForest', WHERE WHAT IT READS IS OF BULK AT MOST 1048576: true; the input reads as it did. -/
def dfsForestUptoRow : OpenClaim := { program := "ytponmjipbcmlhaa", sum := "628b2d88d186391b5a3b5628cd58e2e62d3dc233ac64850ef4019f614f2686dd", func := "tangram/tangramlaw07.DfsForest", spec := "dfsForest", apart := false, narrowed := true }
def DfsForestUptoSaid : Prop := dfsForestUptoRow.holds Try.pinned (OpenSpec.upto dfsForestSpec)

/-- 'tangramlaw07.DfsValid', WHERE WHAT IT READS IS OF BULK AT MOST 1048576: true; the input reads as it did. -/
def dfsValidUptoRow : OpenClaim := { program := "ytponmjipbcmlhaa", sum := "628b2d88d186391b5a3b5628cd58e2e62d3dc233ac64850ef4019f614f2686dd", func := "tangram/tangramlaw07.DfsValid", spec := "dfsValid", apart := false, narrowed := true }
def DfsValidUptoSaid : Prop := dfsValidUptoRow.holds Try.pinned (OpenSpec.upto dfsValidSpec)

/-- 'tangramlaw07.DfsBack', WHERE WHAT IT READS IS OF BULK AT MOST 1048576: true; the input reads as it did. -/
def dfsBackUptoRow : OpenClaim := { program := "ytponmjipbcmlhaa", sum := "628b2d88d186391b5a3b5628cd58e2e62d3dc233ac64850ef4019f614f2686dd", func := "tangram/tangramlaw07.DfsBack", spec := "dfsBack", apart := false, narrowed := true }
def DfsBackUptoSaid : Prop := dfsBackUptoRow.holds Try.pinned (OpenSpec.upto dfsBackSpec)

/-- 'tangramlaw07.DfsAbove', WHERE WHAT IT READS IS OF BULK AT MOST 1048576: true; the input reads as it did. -/
def dfsAboveUptoRow : OpenClaim := { program := "ytponmjipbcmlhaa", sum := "628b2d88d186391b5a3b5628cd58e2e62d3dc233ac64850ef4019f614f2686dd", func := "tangram/tangramlaw07.DfsAbove", spec := "dfsAbove", apart := false, narrowed := true }
def DfsAboveUptoSaid : Prop := dfsAboveUptoRow.holds Try.pinned (OpenSpec.upto dfsAboveSpec)

/-- 'tangramlaw07.DfsOwn', WHERE WHAT IT READS IS OF BULK AT MOST 1048576: true; the input reads as it did. -/
def dfsOwnUptoRow : OpenClaim := { program := "ytponmjipbcmlhaa", sum := "628b2d88d186391b5a3b5628cd58e2e62d3dc233ac64850ef4019f614f2686dd", func := "tangram/tangramlaw07.DfsOwn", spec := "dfsOwn", apart := false, narrowed := true }
def DfsOwnUptoSaid : Prop := dfsOwnUptoRow.holds Try.pinned (OpenSpec.upto dfsOwnSpec)

end Rows
end Go.Proofs.Ytponmjipbcmlhaa
