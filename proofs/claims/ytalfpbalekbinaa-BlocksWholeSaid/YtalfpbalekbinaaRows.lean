/-
  No cell of these rows narrows 'for every input' (looked for: loops, veiled, ifaces, maps, wideKeys, modest, calm, conditions, laid).
  DERIVED. THE GIVEN ROWS OF THIS SEAT. 5 by the template 'for every input the law returns true; each argument reads behind the call as it read before'; 0 by the template 'total and deterministic' (their statements: YtalfpbalekbinaaTotals.lean).
  GIVEN WITH THE SEED: the statements are not yours to turn. If you find one false, say at which input.
  Laid BY PROGRAM, IN A SANDBOX (cutbox-rows.mjs): the forced cells as the released guide's own fill.sh prints them over the translation 37be237f0be34312… (all of the seat's roots in one cut). By AI agents, Wed Nov 11 2026. No macro, syntax, notation, axiom, sorry.
-/
import Derived.Test.YtalfpbalekbinaaChecked
import GoSem.Claim
import GoSem.ClaimJoined
import GoSem.ClaimMapViews
import Derived.JoinedTies
import Derived.KernelRfl
namespace Go.Proofs.Ytalfpbalekbinaa
/- THE CELL 'sum', in the pinned program and in every row, IS THE sha256 OF THE DUMP (.gsa) THAT YtalfpbalekbinaaProg.lean LOADS. Nothing in Lean hashes anything: it is a label: what it is worth is what the hold of that sum in a sandbox is worth. -/
noncomputable def Try.pinned : Pinned := { name := "ytalfpbalekbinaa", sum := "37be237f0be343125c1fc3e421fe61987346593f7b4b3f5af314851aa78ad56d", checked := Try.checked }
namespace Rows
def none {H : Type} : Left H := { results := [], args := [] }

/-- 'tangramlaw09.BlocksOf': WHATEVER THE INPUT: true; the input reads as it did. -/
def blocksOfSpec : ChangeSpec := { name := "blocksOf", fn := fun _ => fun
  | [d] => { results := [.lit (.bool true)], args := [d] }
  | _ => none }
def blocksOfRow : OpenClaim := { program := "ytalfpbalekbinaa", sum := "37be237f0be343125c1fc3e421fe61987346593f7b4b3f5af314851aa78ad56d", func := "tangram/tangramlaw09.BlocksOf", spec := "blocksOf", unfollowed := true, recurses := true, apart := false }
def BlocksOfSaid : Prop := blocksOfRow.holds Try.pinned (OpenSpec.ofChange blocksOfSpec)

/-- ITS FALSE NEIGHBOUR: 'it returns false'. Refute it at one input. -/
def blocksOfWrong : ChangeSpec := { name := "blocksOf", fn := fun _ => fun
  | [d] => { results := [.lit (.bool false)], args := [d] }
  | _ => none }
def BlocksOfWrongFalsely : Prop := blocksOfRow.holds Try.pinned (OpenSpec.ofChange blocksOfWrong)

/-- 'tangramlaw09.BlocksBlock': WHATEVER THE INPUT: true; the input reads as it did. -/
def blocksBlockSpec : ChangeSpec := { name := "blocksBlock", fn := fun _ => fun
  | [d1, d2] => { results := [.lit (.bool true)], args := [d1, d2] }
  | _ => none }
def blocksBlockRow : OpenClaim := { program := "ytalfpbalekbinaa", sum := "37be237f0be343125c1fc3e421fe61987346593f7b4b3f5af314851aa78ad56d", func := "tangram/tangramlaw09.BlocksBlock", spec := "blocksBlock", unfollowed := true, recurses := true, apart := false }
def BlocksBlockSaid : Prop := blocksBlockRow.holds Try.pinned (OpenSpec.ofChange blocksBlockSpec)

/-- ITS FALSE NEIGHBOUR: 'it returns false'. Refute it at one input. -/
def blocksBlockWrong : ChangeSpec := { name := "blocksBlock", fn := fun _ => fun
  | [d1, d2] => { results := [.lit (.bool false)], args := [d1, d2] }
  | _ => none }
def BlocksBlockWrongFalsely : Prop := blocksBlockRow.holds Try.pinned (OpenSpec.ofChange blocksBlockWrong)

/-- 'tangramlaw09.BlocksTree': WHATEVER THE INPUT: true; the input reads as it did. -/
def blocksTreeSpec : ChangeSpec := { name := "blocksTree", fn := fun _ => fun
  | [d] => { results := [.lit (.bool true)], args := [d] }
  | _ => none }
def blocksTreeRow : OpenClaim := { program := "ytalfpbalekbinaa", sum := "37be237f0be343125c1fc3e421fe61987346593f7b4b3f5af314851aa78ad56d", func := "tangram/tangramlaw09.BlocksTree", spec := "blocksTree", unfollowed := true, recurses := true, apart := false }
def BlocksTreeSaid : Prop := blocksTreeRow.holds Try.pinned (OpenSpec.ofChange blocksTreeSpec)

/-- ITS FALSE NEIGHBOUR: 'it returns false'. Refute it at one input. -/
def blocksTreeWrong : ChangeSpec := { name := "blocksTree", fn := fun _ => fun
  | [d] => { results := [.lit (.bool false)], args := [d] }
  | _ => none }
def BlocksTreeWrongFalsely : Prop := blocksTreeRow.holds Try.pinned (OpenSpec.ofChange blocksTreeWrong)

/-- 'tangramlaw09.BlocksWhole': WHATEVER THE INPUT: true; the input reads as it did. -/
def blocksWholeSpec : ChangeSpec := { name := "blocksWhole", fn := fun _ => fun
  | [d] => { results := [.lit (.bool true)], args := [d] }
  | _ => none }
def blocksWholeRow : OpenClaim := { program := "ytalfpbalekbinaa", sum := "37be237f0be343125c1fc3e421fe61987346593f7b4b3f5af314851aa78ad56d", func := "tangram/tangramlaw09.BlocksWhole", spec := "blocksWhole", unfollowed := true, recurses := true, apart := false }
def BlocksWholeSaid : Prop := blocksWholeRow.holds Try.pinned (OpenSpec.ofChange blocksWholeSpec)

/-- ITS FALSE NEIGHBOUR: 'it returns false'. Refute it at one input. -/
def blocksWholeWrong : ChangeSpec := { name := "blocksWhole", fn := fun _ => fun
  | [d] => { results := [.lit (.bool false)], args := [d] }
  | _ => none }
def BlocksWholeWrongFalsely : Prop := blocksWholeRow.holds Try.pinned (OpenSpec.ofChange blocksWholeWrong)

/-- 'tangramlaw09.BlocksOwn': WHATEVER THE INPUT: true; the input reads as it did. -/
def blocksOwnSpec : ChangeSpec := { name := "blocksOwn", fn := fun _ => fun
  | [d1, d2] => { results := [.lit (.bool true)], args := [d1, d2] }
  | _ => none }
def blocksOwnRow : OpenClaim := { program := "ytalfpbalekbinaa", sum := "37be237f0be343125c1fc3e421fe61987346593f7b4b3f5af314851aa78ad56d", func := "tangram/tangramlaw09.BlocksOwn", spec := "blocksOwn", unfollowed := true, recurses := true, apart := false }
def BlocksOwnSaid : Prop := blocksOwnRow.holds Try.pinned (OpenSpec.ofChange blocksOwnSpec)

/-- ITS FALSE NEIGHBOUR: 'it returns false'. Refute it at one input. -/
def blocksOwnWrong : ChangeSpec := { name := "blocksOwn", fn := fun _ => fun
  | [d1, d2] => { results := [.lit (.bool false)], args := [d1, d2] }
  | _ => none }
def BlocksOwnWrongFalsely : Prop := blocksOwnRow.holds Try.pinned (OpenSpec.ofChange blocksOwnWrong)

/- THE SECOND FORM. 'bulk': how many values and letters a reading holds, each counted each time it is reached (what is shared counts as often as it is met; a slice's spare places count too). A statement '..UptoSaid' is the law's where the arguments, and the package variables that the reading takes, are together of bulk at most 1048576: NARROWER than '..Said'. Prove '..Said' where nothing that the law and all that it calls make is longer than what came in: it says more and counts as full. Else prove '..UptoSaid'. A law counts once. -/
mutual
def uptoBulk {H : Type} : DataW H → Nat
  | .lit (.string bytes) => bytes.length + 1
  | .lit _ => 1
  | .nil => 1
  | .ptr d => uptoBulk d + 1
  | .slice elems spare => uptoBulkAll elems + uptoBulkAll spare + 1
  | .agg parts => uptoBulkAll parts + 1
  | .iface _ d => uptoBulk d + 1
  | .map entries => uptoBulkEntries entries + 1
  | .held _ => 1
def uptoBulkAll {H : Type} : List (DataW H) → Nat
  | [] => 0
  | d :: r => uptoBulk d + uptoBulkAll r
def uptoBulkEntries {H : Type} : List (Lit × DataW H) → Nat
  | [] => 0
  | x :: r => uptoBulkEntry x + uptoBulkEntries r
def uptoBulkEntry {H : Type} : Lit × DataW H → Nat
  | (.string bytes, d) => bytes.length + uptoBulk d + 1
  | (_, d) => uptoBulk d + 1
 end
def uptoSmall : (H : Type) → List (DataW H) → Bool := fun _ ds => decide (uptoBulkAll ds ≤ 1048576)
def OpenSpec.upto (s : _root_.Go.ChangeSpec) : _root_.Go.OpenSpec := { _root_.Go.OpenSpec.ofChange s with cond := some uptoSmall }

/-- 'tangramlaw09.BlocksOf', WHERE WHAT IT READS IS OF BULK AT MOST 1048576: true; the input reads as it did. -/
def blocksOfUptoRow : OpenClaim := { program := "ytalfpbalekbinaa", sum := "37be237f0be343125c1fc3e421fe61987346593f7b4b3f5af314851aa78ad56d", func := "tangram/tangramlaw09.BlocksOf", spec := "blocksOf", unfollowed := true, recurses := true, apart := false, narrowed := true }
def BlocksOfUptoSaid : Prop := blocksOfUptoRow.holds Try.pinned (OpenSpec.upto blocksOfSpec)

/-- 'tangramlaw09.BlocksBlock', WHERE WHAT IT READS IS OF BULK AT MOST 1048576: true; the input reads as it did. -/
def blocksBlockUptoRow : OpenClaim := { program := "ytalfpbalekbinaa", sum := "37be237f0be343125c1fc3e421fe61987346593f7b4b3f5af314851aa78ad56d", func := "tangram/tangramlaw09.BlocksBlock", spec := "blocksBlock", unfollowed := true, recurses := true, apart := false, narrowed := true }
def BlocksBlockUptoSaid : Prop := blocksBlockUptoRow.holds Try.pinned (OpenSpec.upto blocksBlockSpec)

/-- 'tangramlaw09.BlocksTree', WHERE WHAT IT READS IS OF BULK AT MOST 1048576: true; the input reads as it did. -/
def blocksTreeUptoRow : OpenClaim := { program := "ytalfpbalekbinaa", sum := "37be237f0be343125c1fc3e421fe61987346593f7b4b3f5af314851aa78ad56d", func := "tangram/tangramlaw09.BlocksTree", spec := "blocksTree", unfollowed := true, recurses := true, apart := false, narrowed := true }
def BlocksTreeUptoSaid : Prop := blocksTreeUptoRow.holds Try.pinned (OpenSpec.upto blocksTreeSpec)

/-- 'tangramlaw09.BlocksWhole', WHERE WHAT IT READS IS OF BULK AT MOST 1048576: true; the input reads as it did. -/
def blocksWholeUptoRow : OpenClaim := { program := "ytalfpbalekbinaa", sum := "37be237f0be343125c1fc3e421fe61987346593f7b4b3f5af314851aa78ad56d", func := "tangram/tangramlaw09.BlocksWhole", spec := "blocksWhole", unfollowed := true, recurses := true, apart := false, narrowed := true }
def BlocksWholeUptoSaid : Prop := blocksWholeUptoRow.holds Try.pinned (OpenSpec.upto blocksWholeSpec)

/-- 'tangramlaw09.BlocksOwn', WHERE WHAT IT READS IS OF BULK AT MOST 1048576: true; the input reads as it did. -/
def blocksOwnUptoRow : OpenClaim := { program := "ytalfpbalekbinaa", sum := "37be237f0be343125c1fc3e421fe61987346593f7b4b3f5af314851aa78ad56d", func := "tangram/tangramlaw09.BlocksOwn", spec := "blocksOwn", unfollowed := true, recurses := true, apart := false, narrowed := true }
def BlocksOwnUptoSaid : Prop := blocksOwnUptoRow.holds Try.pinned (OpenSpec.upto blocksOwnSpec)

end Rows
end Go.Proofs.Ytalfpbalekbinaa
