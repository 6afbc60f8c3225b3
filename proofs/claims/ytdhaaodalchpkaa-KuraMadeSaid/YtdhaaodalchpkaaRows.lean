/-
  No cell of these rows narrows 'for every input' (looked for: loops, veiled, ifaces, maps, wideKeys, modest, calm, conditions, laid).
  DERIVED. THE GIVEN ROWS OF THIS SEAT. 5 by the template 'for every input the law returns true; each argument reads behind the call as it read before'; 0 by the template 'total and deterministic' (their statements: YtdhaaodalchpkaaTotals.lean).
  GIVEN WITH THE SEED: the statements are not yours to turn. If you find one false, say at which input.
  Laid BY PROGRAM, IN A SANDBOX (cutbox-rows.mjs): the forced cells as the released guide's own fill.sh prints them over the translation 0fa2418b41874ad7… (all of the seat's roots in one cut). By AI agents, Wed Nov 11 2026. No macro, syntax, notation, axiom, sorry.
-/
import Derived.Test.YtdhaaodalchpkaaChecked
import GoSem.Claim
import GoSem.ClaimJoined
import GoSem.ClaimMapViews
import Derived.JoinedTies
import Derived.KernelRfl
namespace Go.Proofs.Ytdhaaodalchpkaa
/- THE CELL 'sum', in the pinned program and in every row, IS THE sha256 OF THE DUMP (.gsa) THAT YtdhaaodalchpkaaProg.lean LOADS. Nothing in Lean hashes anything: it is a label: what it is worth is what the hold of that sum in a sandbox is worth. -/
noncomputable def Try.pinned : Pinned := { name := "ytdhaaodalchpkaa", sum := "0fa2418b41874ad7c7bd70a62a30272862cf2ed2aa951b2ceee31299c2938147", checked := Try.checked }
namespace Rows
def none {H : Type} : Left H := { results := [], args := [] }

/-- 'tangramlaw15.KuraChains': WHATEVER THE INPUT: true; the input reads as it did. -/
def kuraChainsSpec : ChangeSpec := { name := "kuraChains", fn := fun _ => fun
  | [d] => { results := [.lit (.bool true)], args := [d] }
  | _ => none }
def kuraChainsRow : OpenClaim := { program := "ytdhaaodalchpkaa", sum := "0fa2418b41874ad7c7bd70a62a30272862cf2ed2aa951b2ceee31299c2938147", func := "tangram/tangramlaw15.KuraChains", spec := "kuraChains", plainKeys := false, apart := false }
def KuraChainsSaid : Prop := kuraChainsRow.holds Try.pinned (OpenSpec.ofChange kuraChainsSpec)

/-- ITS FALSE NEIGHBOUR: 'it returns false'. Refute it at one input. -/
def kuraChainsWrong : ChangeSpec := { name := "kuraChains", fn := fun _ => fun
  | [d] => { results := [.lit (.bool false)], args := [d] }
  | _ => none }
def KuraChainsWrongFalsely : Prop := kuraChainsRow.holds Try.pinned (OpenSpec.ofChange kuraChainsWrong)

/-- 'tangramlaw15.KuraRecognises': WHATEVER THE INPUT: true; the input reads as it did. -/
def kuraRecognisesSpec : ChangeSpec := { name := "kuraRecognises", fn := fun _ => fun
  | [d] => { results := [.lit (.bool true)], args := [d] }
  | _ => none }
def kuraRecognisesRow : OpenClaim := { program := "ytdhaaodalchpkaa", sum := "0fa2418b41874ad7c7bd70a62a30272862cf2ed2aa951b2ceee31299c2938147", func := "tangram/tangramlaw15.KuraRecognises", spec := "kuraRecognises", plainKeys := false, apart := false }
def KuraRecognisesSaid : Prop := kuraRecognisesRow.holds Try.pinned (OpenSpec.ofChange kuraRecognisesSpec)

/-- ITS FALSE NEIGHBOUR: 'it returns false'. Refute it at one input. -/
def kuraRecognisesWrong : ChangeSpec := { name := "kuraRecognises", fn := fun _ => fun
  | [d] => { results := [.lit (.bool false)], args := [d] }
  | _ => none }
def KuraRecognisesWrongFalsely : Prop := kuraRecognisesRow.holds Try.pinned (OpenSpec.ofChange kuraRecognisesWrong)

/-- 'tangramlaw15.KuraChainsPart': WHATEVER THE INPUT: true; the input reads as it did. -/
def kuraChainsPartSpec : ChangeSpec := { name := "kuraChainsPart", fn := fun _ => fun
  | [d] => { results := [.lit (.bool true)], args := [d] }
  | _ => none }
def kuraChainsPartRow : OpenClaim := { program := "ytdhaaodalchpkaa", sum := "0fa2418b41874ad7c7bd70a62a30272862cf2ed2aa951b2ceee31299c2938147", func := "tangram/tangramlaw15.KuraChainsPart", spec := "kuraChainsPart", plainKeys := false, apart := false }
def KuraChainsPartSaid : Prop := kuraChainsPartRow.holds Try.pinned (OpenSpec.ofChange kuraChainsPartSpec)

/-- ITS FALSE NEIGHBOUR: 'it returns false'. Refute it at one input. -/
def kuraChainsPartWrong : ChangeSpec := { name := "kuraChainsPart", fn := fun _ => fun
  | [d] => { results := [.lit (.bool false)], args := [d] }
  | _ => none }
def KuraChainsPartWrongFalsely : Prop := kuraChainsPartRow.holds Try.pinned (OpenSpec.ofChange kuraChainsPartWrong)

/-- 'tangramlaw15.KuraShows': WHATEVER THE INPUT: true; the input reads as it did. -/
def kuraShowsSpec : ChangeSpec := { name := "kuraShows", fn := fun _ => fun
  | [d] => { results := [.lit (.bool true)], args := [d] }
  | _ => none }
def kuraShowsRow : OpenClaim := { program := "ytdhaaodalchpkaa", sum := "0fa2418b41874ad7c7bd70a62a30272862cf2ed2aa951b2ceee31299c2938147", func := "tangram/tangramlaw15.KuraShows", spec := "kuraShows", plainKeys := false, apart := false }
def KuraShowsSaid : Prop := kuraShowsRow.holds Try.pinned (OpenSpec.ofChange kuraShowsSpec)

/-- ITS FALSE NEIGHBOUR: 'it returns false'. Refute it at one input. -/
def kuraShowsWrong : ChangeSpec := { name := "kuraShows", fn := fun _ => fun
  | [d] => { results := [.lit (.bool false)], args := [d] }
  | _ => none }
def KuraShowsWrongFalsely : Prop := kuraShowsRow.holds Try.pinned (OpenSpec.ofChange kuraShowsWrong)

/-- 'tangramlaw15.KuraMade': WHATEVER THE INPUT: true; the input reads as it did. -/
def kuraMadeSpec : ChangeSpec := { name := "kuraMade", fn := fun _ => fun
  | [d1, d2, d3] => { results := [.lit (.bool true)], args := [d1, d2, d3] }
  | _ => none }
def kuraMadeRow : OpenClaim := { program := "ytdhaaodalchpkaa", sum := "0fa2418b41874ad7c7bd70a62a30272862cf2ed2aa951b2ceee31299c2938147", func := "tangram/tangramlaw15.KuraMade", spec := "kuraMade", plainKeys := false, apart := false }
def KuraMadeSaid : Prop := kuraMadeRow.holds Try.pinned (OpenSpec.ofChange kuraMadeSpec)

/-- ITS FALSE NEIGHBOUR: 'it returns false'. Refute it at one input. -/
def kuraMadeWrong : ChangeSpec := { name := "kuraMade", fn := fun _ => fun
  | [d1, d2, d3] => { results := [.lit (.bool false)], args := [d1, d2, d3] }
  | _ => none }
def KuraMadeWrongFalsely : Prop := kuraMadeRow.holds Try.pinned (OpenSpec.ofChange kuraMadeWrong)

/- THE SECOND FORM. 'bulk': how many values and letters a reading holds, each counted each time it is reached (what is shared counts as often as it is met; a slice's spare places count too). A statement '..UptoSaid' is the law's where the arguments, and the package variables that the reading takes, are together of bulk at most 1048576: NARROWER than '..Said'. Prove '..Said' where nothing that the law and all that it calls make is longer than what came in: it says more and counts as full. Else prove '..UptoSaid'. A law counts once. -/
mutual
def uptoBulk {H : Type} : DataW H → Nat
  | .lit (.string bytes) => bytes.length + 1
  | .lit _ => 1
  | .nil => 1
  | .ptr d => uptoBulk d + 1
  | .slice elems spare => uptoBulkAll elems + uptoBulkAll spare + 1
  | .agg parts => uptoBulkAll parts + 1
  | .iface _ d => uptoBulk d + 1
  | .map entries => uptoBulkEntries entries + 1
  | .held _ => 1
def uptoBulkAll {H : Type} : List (DataW H) → Nat
  | [] => 0
  | d :: r => uptoBulk d + uptoBulkAll r
def uptoBulkEntries {H : Type} : List (Lit × DataW H) → Nat
  | [] => 0
  | x :: r => uptoBulkEntry x + uptoBulkEntries r
def uptoBulkEntry {H : Type} : Lit × DataW H → Nat
  | (.string bytes, d) => bytes.length + uptoBulk d + 1
  | (_, d) => uptoBulk d + 1
 end
def uptoSmall : (H : Type) → List (DataW H) → Bool := fun _ ds => decide (uptoBulkAll ds ≤ 1048576)
def OpenSpec.upto (s : _root_.Go.ChangeSpec) : _root_.Go.OpenSpec := { _root_.Go.OpenSpec.ofChange s with cond := some uptoSmall }

/-- 'tangramlaw15.KuraChains', WHERE WHAT IT READS IS OF BULK AT MOST 1048576: true; the input reads as it did. -/
def kuraChainsUptoRow : OpenClaim := { program := "ytdhaaodalchpkaa", sum := "0fa2418b41874ad7c7bd70a62a30272862cf2ed2aa951b2ceee31299c2938147", func := "tangram/tangramlaw15.KuraChains", spec := "kuraChains", plainKeys := false, apart := false, narrowed := true }
def KuraChainsUptoSaid : Prop := kuraChainsUptoRow.holds Try.pinned (OpenSpec.upto kuraChainsSpec)

/-- 'tangramlaw15.KuraRecognises', WHERE WHAT IT READS IS OF BULK AT MOST 1048576: true; the input reads as it did. -/
def kuraRecognisesUptoRow : OpenClaim := { program := "ytdhaaodalchpkaa", sum := "0fa2418b41874ad7c7bd70a62a30272862cf2ed2aa951b2ceee31299c2938147", func := "tangram/tangramlaw15.KuraRecognises", spec := "kuraRecognises", plainKeys := false, apart := false, narrowed := true }
def KuraRecognisesUptoSaid : Prop := kuraRecognisesUptoRow.holds Try.pinned (OpenSpec.upto kuraRecognisesSpec)

/-- 'tangramlaw15.KuraChainsPart', WHERE WHAT IT READS IS OF BULK AT MOST 1048576: true; the input reads as it did. -/
def kuraChainsPartUptoRow : OpenClaim := { program := "ytdhaaodalchpkaa", sum := "0fa2418b41874ad7c7bd70a62a30272862cf2ed2aa951b2ceee31299c2938147", func := "tangram/tangramlaw15.KuraChainsPart", spec := "kuraChainsPart", plainKeys := false, apart := false, narrowed := true }
def KuraChainsPartUptoSaid : Prop := kuraChainsPartUptoRow.holds Try.pinned (OpenSpec.upto kuraChainsPartSpec)

/-- 'tangramlaw15.KuraShows', WHERE WHAT IT READS IS OF BULK AT MOST 1048576: true; the input reads as it did. -/
def kuraShowsUptoRow : OpenClaim := { program := "ytdhaaodalchpkaa", sum := "0fa2418b41874ad7c7bd70a62a30272862cf2ed2aa951b2ceee31299c2938147", func := "tangram/tangramlaw15.KuraShows", spec := "kuraShows", plainKeys := false, apart := false, narrowed := true }
def KuraShowsUptoSaid : Prop := kuraShowsUptoRow.holds Try.pinned (OpenSpec.upto kuraShowsSpec)

/-- 'tangramlaw15.KuraMade', WHERE WHAT IT READS IS OF BULK AT MOST 1048576: true; the input reads as it did. -/
def kuraMadeUptoRow : OpenClaim := { program := "ytdhaaodalchpkaa", sum := "0fa2418b41874ad7c7bd70a62a30272862cf2ed2aa951b2ceee31299c2938147", func := "tangram/tangramlaw15.KuraMade", spec := "kuraMade", plainKeys := false, apart := false, narrowed := true }
def KuraMadeUptoSaid : Prop := kuraMadeUptoRow.holds Try.pinned (OpenSpec.upto kuraMadeSpec)

end Rows
end Go.Proofs.Ytdhaaodalchpkaa
