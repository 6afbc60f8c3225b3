/-
  No cell of these rows narrows 'for every input' (looked for: loops, veiled, ifaces, maps, wideKeys, modest, calm, conditions, laid).
  DERIVED. THE GIVEN ROWS OF THIS SEAT. 3 by the template 'for every input the law returns true; each argument reads behind the call as it read before'; 0 by the template 'total and deterministic' (their statements: YtmgoahbloppdmaaTotals.lean).
  GIVEN WITH THE SEED: the statements are not yours to turn. If you find one false, say at which input.
  Laid BY PROGRAM, IN A SANDBOX (cutbox-rows.mjs): the forced cells as the released guide's own fill.sh prints them over the translation 1b219b2a6424f172… (all of the seat's roots in one cut). By AI agents, Wed Nov 11 2026. No macro, syntax, notation, axiom, sorry.
-/
import Derived.Test.YtmgoahbloppdmaaChecked
import GoSem.Claim
import GoSem.ClaimJoined
import GoSem.ClaimMapViews
import Derived.JoinedTies
import Derived.KernelRfl
namespace Go.Proofs.Ytmgoahbloppdmaa
/- THE CELL 'sum', in the pinned program and in every row, IS THE sha256 OF THE DUMP (.gsa) THAT YtmgoahbloppdmaaProg.lean LOADS. Nothing in Lean hashes anything: it is a label: what it is worth is what the hold of that sum in a sandbox is worth. -/
noncomputable def Try.pinned : Pinned := { name := "ytmgoahbloppdmaa", sum := "1b219b2a6424f172cc3ebb61c3f4c391f83cc20a7e9b4a06ba408da0aa889f8c", checked := Try.checked }
namespace Rows
def none {H : Type} : Left H := { results := [], args := [] }

/-- 'tangramlaw08.LowWalk': WHATEVER THE INPUT: true; the input reads as it did. -/
def lowWalkSpec : ChangeSpec := { name := "lowWalk", fn := fun _ => fun
  | [d] => { results := [.lit (.bool true)], args := [d] }
  | _ => none }
def lowWalkRow : OpenClaim := { program := "ytmgoahbloppdmaa", sum := "1b219b2a6424f172cc3ebb61c3f4c391f83cc20a7e9b4a06ba408da0aa889f8c", func := "tangram/tangramlaw08.LowWalk", spec := "lowWalk", unfollowed := true, recurses := true, apart := false }
def LowWalkSaid : Prop := lowWalkRow.holds Try.pinned (OpenSpec.ofChange lowWalkSpec)

/-- ITS FALSE NEIGHBOUR: 'it returns false'. Refute it at one input. -/
def lowWalkWrong : ChangeSpec := { name := "lowWalk", fn := fun _ => fun
  | [d] => { results := [.lit (.bool false)], args := [d] }
  | _ => none }
def LowWalkWrongFalsely : Prop := lowWalkRow.holds Try.pinned (OpenSpec.ofChange lowWalkWrong)

/-- 'tangramlaw08.LowBridges': WHATEVER THE INPUT: true; the input reads as it did. -/
def lowBridgesSpec : ChangeSpec := { name := "lowBridges", fn := fun _ => fun
  | [d] => { results := [.lit (.bool true)], args := [d] }
  | _ => none }
def lowBridgesRow : OpenClaim := { program := "ytmgoahbloppdmaa", sum := "1b219b2a6424f172cc3ebb61c3f4c391f83cc20a7e9b4a06ba408da0aa889f8c", func := "tangram/tangramlaw08.LowBridges", spec := "lowBridges", unfollowed := true, recurses := true, apart := false }
def LowBridgesSaid : Prop := lowBridgesRow.holds Try.pinned (OpenSpec.ofChange lowBridgesSpec)

/-- ITS FALSE NEIGHBOUR: 'it returns false'. Refute it at one input. -/
def lowBridgesWrong : ChangeSpec := { name := "lowBridges", fn := fun _ => fun
  | [d] => { results := [.lit (.bool false)], args := [d] }
  | _ => none }
def LowBridgesWrongFalsely : Prop := lowBridgesRow.holds Try.pinned (OpenSpec.ofChange lowBridgesWrong)

/-- 'tangramlaw08.LowOut': WHATEVER THE INPUT: true; the input reads as it did. -/
def lowOutSpec : ChangeSpec := { name := "lowOut", fn := fun _ => fun
  | [d] => { results := [.lit (.bool true)], args := [d] }
  | _ => none }
def lowOutRow : OpenClaim := { program := "ytmgoahbloppdmaa", sum := "1b219b2a6424f172cc3ebb61c3f4c391f83cc20a7e9b4a06ba408da0aa889f8c", func := "tangram/tangramlaw08.LowOut", spec := "lowOut", unfollowed := true, recurses := true, apart := false }
def LowOutSaid : Prop := lowOutRow.holds Try.pinned (OpenSpec.ofChange lowOutSpec)

/-- ITS FALSE NEIGHBOUR: 'it returns false'. Refute it at one input. -/
def lowOutWrong : ChangeSpec := { name := "lowOut", fn := fun _ => fun
  | [d] => { results := [.lit (.bool false)], args := [d] }
  | _ => none }
def LowOutWrongFalsely : Prop := lowOutRow.holds Try.pinned (OpenSpec.ofChange lowOutWrong)

/- THE SECOND FORM. 'bulk': how many values and letters a reading holds, each counted each time it is reached (what is shared counts as often as it is met; a slice's spare places count too). A statement '..UptoSaid' is the law's where the arguments, and the package variables that the reading takes, are together of bulk at most 1048576: NARROWER than '..Said'. Prove '..Said' where nothing that the law and all that it calls make is longer than what came in: it says more and counts as full. Else prove '..UptoSaid'. A law counts once. -/
mutual
def uptoBulk {H : Type} : DataW H → Nat
  | .lit (.string bytes) => bytes.length + 1
  | .lit _ => 1
  | .nil => 1
  | .ptr d => uptoBulk d + 1
  | .slice elems spare => uptoBulkAll elems + uptoBulkAll spare + 1
  | .agg parts => uptoBulkAll parts + 1
  | .iface _ d => uptoBulk d + 1
  | .map entries => uptoBulkEntries entries + 1
  | .held _ => 1
def uptoBulkAll {H : Type} : List (DataW H) → Nat
  | [] => 0
  | d :: r => uptoBulk d + uptoBulkAll r
def uptoBulkEntries {H : Type} : List (Lit × DataW H) → Nat
  | [] => 0
  | x :: r => uptoBulkEntry x + uptoBulkEntries r
def uptoBulkEntry {H : Type} : Lit × DataW H → Nat
  | (.string bytes, d) => bytes.length + uptoBulk d + 1
  | (_, d) => uptoBulk d + 1
 end
def uptoSmall : (H : Type) → List (DataW H) → Bool := fun _ ds => decide (uptoBulkAll ds ≤ 1048576)
def OpenSpec.upto (s : _root_.Go.ChangeSpec) : _root_.Go.OpenSpec := { _root_.Go.OpenSpec.ofChange s with cond := some uptoSmall }

/-- 'tangramlaw08.LowWalk', WHERE WHAT IT READS IS OF BULK AT MOST 1048576: true; the input reads as it did. -/
def lowWalkUptoRow : OpenClaim := { program := "ytmgoahbloppdmaa", sum := "1b219b2a6424f172cc3ebb61c3f4c391f83cc20a7e9b4a06ba408da0aa889f8c", func := "tangram/tangramlaw08.LowWalk", spec := "lowWalk", unfollowed := true, recurses := true, apart := false, narrowed := true }
def LowWalkUptoSaid : Prop := lowWalkUptoRow.holds Try.pinned (OpenSpec.upto lowWalkSpec)

/-- 'tangramlaw08.LowBridges', WHERE WHAT IT READS IS OF BULK AT MOST 1048576: true; the input reads as it did. -/
def lowBridgesUptoRow : OpenClaim := { program := "ytmgoahbloppdmaa", sum := "1b219b2a6424f172cc3ebb61c3f4c391f83cc20a7e9b4a06ba408da0aa889f8c", func := "tangram/tangramlaw08.LowBridges", spec := "lowBridges", unfollowed := true, recurses := true, apart := false, narrowed := true }
def LowBridgesUptoSaid : Prop := lowBridgesUptoRow.holds Try.pinned (OpenSpec.upto lowBridgesSpec)

/-- 'tangramlaw08.LowOut', WHERE WHAT IT READS IS OF BULK AT MOST 1048576: true; the input reads as it did. -/
def lowOutUptoRow : OpenClaim := { program := "ytmgoahbloppdmaa", sum := "1b219b2a6424f172cc3ebb61c3f4c391f83cc20a7e9b4a06ba408da0aa889f8c", func := "tangram/tangramlaw08.LowOut", spec := "lowOut", unfollowed := true, recurses := true, apart := false, narrowed := true }
def LowOutUptoSaid : Prop := lowOutUptoRow.holds Try.pinned (OpenSpec.upto lowOutSpec)

end Rows
end Go.Proofs.Ytmgoahbloppdmaa
