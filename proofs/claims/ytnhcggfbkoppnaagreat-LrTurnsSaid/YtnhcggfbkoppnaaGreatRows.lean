/-
  No cell of these rows narrows 'for every input' (looked for: loops, veiled, ifaces, maps, wideKeys, modest, calm, conditions, laid).
  DERIVED. THE GIVEN ROWS OF THIS SEAT. 6 by the template 'for every input the law returns true; each argument reads behind the call as it read before'; 0 by the template 'total and deterministic' (their statements: YtnhcggfbkoppnaaGreatTotals.lean).
  GIVEN WITH THE SEED: the statements are not yours to turn. If you find one false, say at which input.
  Laid BY PROGRAM, IN A SANDBOX (cutbox-rows.mjs): the forced cells as the released guide's own fill.sh prints them over the translation 117e7586e2de9128… (all of the seat's roots in one cut). By AI agents, Wed Nov 11 2026. No macro, syntax, notation, axiom, sorry.
-/
import Derived.Test.YtnhcggfbkoppnaaGreatChecked
import GoSem.Claim
import GoSem.ClaimJoined
import GoSem.ClaimMapViews
import Derived.JoinedTies
import Derived.KernelRfl
namespace Go.Proofs.YtnhcggfbkoppnaaGreat
/- THE CELL 'sum', in the pinned program and in every row, IS THE sha256 OF THE DUMP (.gsa) THAT YtnhcggfbkoppnaaGreatProg.lean LOADS. Nothing in Lean hashes anything: it is a label: what it is worth is what the hold of that sum in a sandbox is worth. -/
noncomputable def Tryz.pinned : Pinned := { name := "ytnhcggfbkoppnaagreat", sum := "117e7586e2de91282bc08be83fdc1837f7b6bca8202e8bc8fab1a85b82e1d7e4", checked := Tryz.checked }
namespace Rows
def none {H : Type} : Left H := { results := [], args := [] }

/-- 'tangramlaw10.LrPlanar': WHATEVER THE INPUT: true; the input reads as it did. -/
def lrPlanarSpec : ChangeSpec := { name := "lrPlanar", fn := fun _ => fun
  | [d] => { results := [.lit (.bool true)], args := [d] }
  | _ => none }
def lrPlanarRow : OpenClaim := { program := "ytnhcggfbkoppnaagreat", sum := "117e7586e2de91282bc08be83fdc1837f7b6bca8202e8bc8fab1a85b82e1d7e4", func := "tangram/tangramlaw10.LrPlanar", spec := "lrPlanar", unfollowed := true, recurses := true, apart := false }
def LrPlanarSaid : Prop := lrPlanarRow.holds Tryz.pinned (OpenSpec.ofChange lrPlanarSpec)

/-- ITS FALSE NEIGHBOUR: 'it returns false'. Refute it at one input. -/
def lrPlanarWrong : ChangeSpec := { name := "lrPlanar", fn := fun _ => fun
  | [d] => { results := [.lit (.bool false)], args := [d] }
  | _ => none }
def LrPlanarWrongFalsely : Prop := lrPlanarRow.holds Tryz.pinned (OpenSpec.ofChange lrPlanarWrong)

/-- 'tangramlaw10.LrTests': WHATEVER THE INPUT: true; the input reads as it did. -/
def lrTestsSpec : ChangeSpec := { name := "lrTests", fn := fun _ => fun
  | [d] => { results := [.lit (.bool true)], args := [d] }
  | _ => none }
def lrTestsRow : OpenClaim := { program := "ytnhcggfbkoppnaagreat", sum := "117e7586e2de91282bc08be83fdc1837f7b6bca8202e8bc8fab1a85b82e1d7e4", func := "tangram/tangramlaw10.LrTests", spec := "lrTests", unfollowed := true, recurses := true, apart := false }
def LrTestsSaid : Prop := lrTestsRow.holds Tryz.pinned (OpenSpec.ofChange lrTestsSpec)

/-- ITS FALSE NEIGHBOUR: 'it returns false'. Refute it at one input. -/
def lrTestsWrong : ChangeSpec := { name := "lrTests", fn := fun _ => fun
  | [d] => { results := [.lit (.bool false)], args := [d] }
  | _ => none }
def LrTestsWrongFalsely : Prop := lrTestsRow.holds Tryz.pinned (OpenSpec.ofChange lrTestsWrong)

/-- 'tangramlaw10.LrValid': WHATEVER THE INPUT: true; the input reads as it did. -/
def lrValidSpec : ChangeSpec := { name := "lrValid", fn := fun _ => fun
  | [d] => { results := [.lit (.bool true)], args := [d] }
  | _ => none }
def lrValidRow : OpenClaim := { program := "ytnhcggfbkoppnaagreat", sum := "117e7586e2de91282bc08be83fdc1837f7b6bca8202e8bc8fab1a85b82e1d7e4", func := "tangram/tangramlaw10.LrValid", spec := "lrValid", unfollowed := true, recurses := true, apart := false }
def LrValidSaid : Prop := lrValidRow.holds Tryz.pinned (OpenSpec.ofChange lrValidSpec)

/-- ITS FALSE NEIGHBOUR: 'it returns false'. Refute it at one input. -/
def lrValidWrong : ChangeSpec := { name := "lrValid", fn := fun _ => fun
  | [d] => { results := [.lit (.bool false)], args := [d] }
  | _ => none }
def LrValidWrongFalsely : Prop := lrValidRow.holds Tryz.pinned (OpenSpec.ofChange lrValidWrong)

/-- 'tangramlaw10.LrTurns': WHATEVER THE INPUT: true; the input reads as it did. -/
def lrTurnsSpec : ChangeSpec := { name := "lrTurns", fn := fun _ => fun
  | [d] => { results := [.lit (.bool true)], args := [d] }
  | _ => none }
def lrTurnsRow : OpenClaim := { program := "ytnhcggfbkoppnaagreat", sum := "117e7586e2de91282bc08be83fdc1837f7b6bca8202e8bc8fab1a85b82e1d7e4", func := "tangram/tangramlaw10.LrTurns", spec := "lrTurns", unfollowed := true, recurses := true, apart := false }
def LrTurnsSaid : Prop := lrTurnsRow.holds Tryz.pinned (OpenSpec.ofChange lrTurnsSpec)

/-- ITS FALSE NEIGHBOUR: 'it returns false'. Refute it at one input. -/
def lrTurnsWrong : ChangeSpec := { name := "lrTurns", fn := fun _ => fun
  | [d] => { results := [.lit (.bool false)], args := [d] }
  | _ => none }
def LrTurnsWrongFalsely : Prop := lrTurnsRow.holds Tryz.pinned (OpenSpec.ofChange lrTurnsWrong)

/-- 'tangramlaw10.LrNames': WHATEVER THE INPUT: true; the input reads as it did. -/
def lrNamesSpec : ChangeSpec := { name := "lrNames", fn := fun _ => fun
  | [d1, d2] => { results := [.lit (.bool true)], args := [d1, d2] }
  | _ => none }
def lrNamesRow : OpenClaim := { program := "ytnhcggfbkoppnaagreat", sum := "117e7586e2de91282bc08be83fdc1837f7b6bca8202e8bc8fab1a85b82e1d7e4", func := "tangram/tangramlaw10.LrNames", spec := "lrNames", unfollowed := true, recurses := true, apart := false }
def LrNamesSaid : Prop := lrNamesRow.holds Tryz.pinned (OpenSpec.ofChange lrNamesSpec)

/-- ITS FALSE NEIGHBOUR: 'it returns false'. Refute it at one input. -/
def lrNamesWrong : ChangeSpec := { name := "lrNames", fn := fun _ => fun
  | [d1, d2] => { results := [.lit (.bool false)], args := [d1, d2] }
  | _ => none }
def LrNamesWrongFalsely : Prop := lrNamesRow.holds Tryz.pinned (OpenSpec.ofChange lrNamesWrong)

/-- 'tangramlaw10.LrParts': WHATEVER THE INPUT: true; the input reads as it did. -/
def lrPartsSpec : ChangeSpec := { name := "lrParts", fn := fun _ => fun
  | [d1, d2] => { results := [.lit (.bool true)], args := [d1, d2] }
  | _ => none }
def lrPartsRow : OpenClaim := { program := "ytnhcggfbkoppnaagreat", sum := "117e7586e2de91282bc08be83fdc1837f7b6bca8202e8bc8fab1a85b82e1d7e4", func := "tangram/tangramlaw10.LrParts", spec := "lrParts", unfollowed := true, recurses := true, apart := false }
def LrPartsSaid : Prop := lrPartsRow.holds Tryz.pinned (OpenSpec.ofChange lrPartsSpec)

/-- ITS FALSE NEIGHBOUR: 'it returns false'. Refute it at one input. -/
def lrPartsWrong : ChangeSpec := { name := "lrParts", fn := fun _ => fun
  | [d1, d2] => { results := [.lit (.bool false)], args := [d1, d2] }
  | _ => none }
def LrPartsWrongFalsely : Prop := lrPartsRow.holds Tryz.pinned (OpenSpec.ofChange lrPartsWrong)

/- THE SECOND FORM. 'bulk': how many values and letters a reading holds, each counted each time it is reached (what is shared counts as often as it is met; a slice's spare places count too). A statement '..UptoSaid' is the law's where the arguments, and the package variables that the reading takes, are together of bulk at most 1048576: NARROWER than '..Said'. Prove '..Said' where nothing that the law and all that it calls make is longer than what came in: it says more and counts as full. Else prove '..UptoSaid'. A law counts once. -/
mutual
def uptoBulk {H : Type} : DataW H → Nat
  | .lit (.string bytes) => bytes.length + 1
  | .lit _ => 1
  | .nil => 1
  | .ptr d => uptoBulk d + 1
  | .slice elems spare => uptoBulkAll elems + uptoBulkAll spare + 1
  | .agg parts => uptoBulkAll parts + 1
  | .iface _ d => uptoBulk d + 1
  | .map entries => uptoBulkEntries entries + 1
  | .held _ => 1
def uptoBulkAll {H : Type} : List (DataW H) → Nat
  | [] => 0
  | d :: r => uptoBulk d + uptoBulkAll r
def uptoBulkEntries {H : Type} : List (Lit × DataW H) → Nat
  | [] => 0
  | x :: r => uptoBulkEntry x + uptoBulkEntries r
def uptoBulkEntry {H : Type} : Lit × DataW H → Nat
  | (.string bytes, d) => bytes.length + uptoBulk d + 1
  | (_, d) => uptoBulk d + 1
 end
def uptoSmall : (H : Type) → List (DataW H) → Bool := fun _ ds => decide (uptoBulkAll ds ≤ 1048576)
def OpenSpec.upto (s : _root_.Go.ChangeSpec) : _root_.Go.OpenSpec := { _root_.Go.OpenSpec.ofChange s with cond := some uptoSmall }

/-- 'tangramlaw10.LrPlanar', WHERE WHAT IT READS IS OF BULK AT MOST 1048576: true; the input reads as it did. -/
def lrPlanarUptoRow : OpenClaim := { program := "ytnhcggfbkoppnaagreat", sum := "117e7586e2de91282bc08be83fdc1837f7b6bca8202e8bc8fab1a85b82e1d7e4", func := "tangram/tangramlaw10.LrPlanar", spec := "lrPlanar", unfollowed := true, recurses := true, apart := false, narrowed := true }
def LrPlanarUptoSaid : Prop := lrPlanarUptoRow.holds Tryz.pinned (OpenSpec.upto lrPlanarSpec)

/-- 'tangramlaw10.LrTests', WHERE WHAT IT READS IS OF BULK AT MOST 1048576: true; the input reads as it did. -/
def lrTestsUptoRow : OpenClaim := { program := "ytnhcggfbkoppnaagreat", sum := "117e7586e2de91282bc08be83fdc1837f7b6bca8202e8bc8fab1a85b82e1d7e4", func := "tangram/tangramlaw10.LrTests", spec := "lrTests", unfollowed := true, recurses := true, apart := false, narrowed := true }
def LrTestsUptoSaid : Prop := lrTestsUptoRow.holds Tryz.pinned (OpenSpec.upto lrTestsSpec)

/-- 'tangramlaw10.LrValid', WHERE WHAT IT READS IS OF BULK AT MOST 1048576: true; the input reads as it did. -/
def lrValidUptoRow : OpenClaim := { program := "ytnhcggfbkoppnaagreat", sum := "117e7586e2de91282bc08be83fdc1837f7b6bca8202e8bc8fab1a85b82e1d7e4", func := "tangram/tangramlaw10.LrValid", spec := "lrValid", unfollowed := true, recurses := true, apart := false, narrowed := true }
def LrValidUptoSaid : Prop := lrValidUptoRow.holds Tryz.pinned (OpenSpec.upto lrValidSpec)

/-- 'tangramlaw10.LrTurns', WHERE WHAT IT READS IS OF BULK AT MOST 1048576: true; the input reads as it did. -/
def lrTurnsUptoRow : OpenClaim := { program := "ytnhcggfbkoppnaagreat", sum := "117e7586e2de91282bc08be83fdc1837f7b6bca8202e8bc8fab1a85b82e1d7e4", func := "tangram/tangramlaw10.LrTurns", spec := "lrTurns", unfollowed := true, recurses := true, apart := false, narrowed := true }
def LrTurnsUptoSaid : Prop := lrTurnsUptoRow.holds Tryz.pinned (OpenSpec.upto lrTurnsSpec)

/-- 'tangramlaw10.LrNames', WHERE WHAT IT READS IS OF BULK AT MOST 1048576: true; the input reads as it did. -/
def lrNamesUptoRow : OpenClaim := { program := "ytnhcggfbkoppnaagreat", sum := "117e7586e2de91282bc08be83fdc1837f7b6bca8202e8bc8fab1a85b82e1d7e4", func := "tangram/tangramlaw10.LrNames", spec := "lrNames", unfollowed := true, recurses := true, apart := false, narrowed := true }
def LrNamesUptoSaid : Prop := lrNamesUptoRow.holds Tryz.pinned (OpenSpec.upto lrNamesSpec)

/-- 'tangramlaw10.LrParts', WHERE WHAT IT READS IS OF BULK AT MOST 1048576: true; the input reads as it did. -/
def lrPartsUptoRow : OpenClaim := { program := "ytnhcggfbkoppnaagreat", sum := "117e7586e2de91282bc08be83fdc1837f7b6bca8202e8bc8fab1a85b82e1d7e4", func := "tangram/tangramlaw10.LrParts", spec := "lrParts", unfollowed := true, recurses := true, apart := false, narrowed := true }
def LrPartsUptoSaid : Prop := lrPartsUptoRow.holds Tryz.pinned (OpenSpec.upto lrPartsSpec)

end Rows
end Go.Proofs.YtnhcggfbkoppnaaGreat
