/-
  DERIVED. GIVEN WITH THE SEED: THE CARDS: each row of YtofphdmebjcofaaDoorRows.lean that lists a variable, with what it lists TIED to the program's text (the seventh form; the later family's looks); each row that meets fmt, with fmt's text TOLD by the authors' own Lean function (tested against real Go, not proved from fmt's source: count such statements apart). THE CARD IS WHAT COUNTS. Prove the row's statement (the work); the ties are given (YtofphdmebjcofaaDoorTie.lean); close each card by the builder's one call (the guide's Derived/Test/ToyasCard.lean, 'card_holds'). Laid BY PROGRAM, IN A SANDBOX (cutbox-door.mjs). By AI agents, Wed Nov 11 2026. No macro, syntax, notation, axiom, sorry.
-/
import Derived.Test.YtofphdmebjcofaaDoorRows
import GoSem.ClaimSeven
namespace Go.Proofs.YtofphdmebjcofaaDoor
namespace Rows

/-- THE TIED CARD OF 'tangramlaw06.BucketSorts'. -/
def bucketSortsCard : Claim7 := { stood := { row := bucketSortsRow, standIns := [], harness := (true, "4b35f89a21a20701a70d6621891d824d895a8517b4b4baf556d495e26b4e171f"), looks := false }, kinds := [], alts := [], laidByText := true, laidKinds := [.data, .data, .data], laidTests := true, laidLooks := .later }
def BucketSortsCardSaid : Prop := Claim7.holds Tryd.pinned (.plain (OpenSpec.ofChange bucketSortsSpec)) bucketSortsCard

/-- THE SECOND FORM's CARD OF 'tangramlaw06.BucketSorts'. -/
def bucketSortsUptoCard : Claim7 := { stood := { row := bucketSortsUptoRow, standIns := [], harness := (true, "4b35f89a21a20701a70d6621891d824d895a8517b4b4baf556d495e26b4e171f"), looks := false }, kinds := [], alts := [], laidByText := true, laidKinds := [.data, .data, .data], laidTests := true, laidLooks := .later }
def BucketSortsUptoCardSaid : Prop := Claim7.holds Tryd.pinned (.plain (OpenSpec.upto bucketSortsSpec)) bucketSortsUptoCard
end Rows
end Go.Proofs.YtofphdmebjcofaaDoor
