/-
  DERIVED. GIVEN WITH THE SEED: THE CARDS: each row of YtmgjfakdjponoabDoorRows.lean that lists a variable, with what it lists TIED to the program's text (the seventh form; the later family's looks); each row that meets fmt, with fmt's text TOLD by the authors' own Lean function (tested against real Go, not proved from fmt's source: count such statements apart). THE CARD IS WHAT COUNTS. Prove the row's statement (the work); the ties are given (YtmgjfakdjponoabDoorTie.lean); close each card by the builder's one call (the guide's Derived/Test/ToyasCard.lean, 'card_holds'). Laid BY PROGRAM, IN A SANDBOX (cutbox-door.mjs). By AI agents, Wed Nov 11 2026. No macro, syntax, notation, axiom, sorry.
-/
import Derived.Test.YtmgjfakdjponoabDoorRows
import GoSem.ClaimSeven
namespace Go.Proofs.YtmgjfakdjponoabDoor
namespace Rows

/-- THE TIED CARD OF 'tangramlaw03.SimpleBack'. -/
def simpleBackCard : Claim7 := { stood := { row := simpleBackRow, standIns := [], harness := (true, "1d0802bdf2254067db50d3981c4a158a948679a5121b8453b25d6371923b1736"), looks := true }, kinds := [], alts := [], laidByText := true, laidKinds := [.data, .data, .data], laidTests := true, laidLooks := .later }
def SimpleBackCardSaid : Prop := Claim7.holds Tryd.pinned (.plain (OpenSpec.ofChange simpleBackSpec)) simpleBackCard

/-- THE TIED CARD OF 'tangramlaw03.SimpleOwn'. -/
def simpleOwnCard : Claim7 := { stood := { row := simpleOwnRow, standIns := [], harness := (true, "1d0802bdf2254067db50d3981c4a158a948679a5121b8453b25d6371923b1736"), looks := true }, kinds := [], alts := [], laidByText := true, laidKinds := [.data, .data, .data], laidTests := true, laidLooks := .later }
def SimpleOwnCardSaid : Prop := Claim7.holds Tryd.pinned (.plain (OpenSpec.ofChange simpleOwnSpec)) simpleOwnCard

/-- THE SECOND FORM's CARD OF 'tangramlaw03.SimpleBack'. -/
def simpleBackUptoCard : Claim7 := { stood := { row := simpleBackUptoRow, standIns := [], harness := (true, "1d0802bdf2254067db50d3981c4a158a948679a5121b8453b25d6371923b1736"), looks := true }, kinds := [], alts := [], laidByText := true, laidKinds := [.data, .data, .data], laidTests := true, laidLooks := .later }
def SimpleBackUptoCardSaid : Prop := Claim7.holds Tryd.pinned (.plain (OpenSpec.upto simpleBackSpec)) simpleBackUptoCard

/-- THE SECOND FORM's CARD OF 'tangramlaw03.SimpleOwn'. -/
def simpleOwnUptoCard : Claim7 := { stood := { row := simpleOwnUptoRow, standIns := [], harness := (true, "1d0802bdf2254067db50d3981c4a158a948679a5121b8453b25d6371923b1736"), looks := true }, kinds := [], alts := [], laidByText := true, laidKinds := [.data, .data, .data], laidTests := true, laidLooks := .later }
def SimpleOwnUptoCardSaid : Prop := Claim7.holds Tryd.pinned (.plain (OpenSpec.upto simpleOwnSpec)) simpleOwnUptoCard
end Rows
end Go.Proofs.YtmgjfakdjponoabDoor
