/-
  DERIVED. GIVEN WITH THE SEED: THE CARDS: each row of YtodlejemkihjnaaDoorRows.lean that lists a variable, with what it lists TIED to the program's text (the seventh form; the later family's looks); each row that meets fmt, with fmt's text TOLD by the authors' own Lean function (tested against real Go, not proved from fmt's source: count such statements apart). THE CARD IS WHAT COUNTS. Prove the row's statement (the work); the ties are given (YtodlejemkihjnaaDoorTie.lean); close each card by the builder's one call (the guide's Derived/Test/ToyasCard.lean, 'card_holds'). Laid BY PROGRAM, IN A SANDBOX (cutbox-door.mjs). By AI agents, Wed Nov 11 2026. No macro, syntax, notation, axiom, sorry.
-/
import Derived.Test.YtodlejemkihjnaaDoorRows
import GoSem.ClaimSeven
namespace Go.Proofs.YtodlejemkihjnaaDoor
namespace Rows

/-- THE TIED CARD OF 'tangramlaw17.CertMemory'. -/
def certMemoryCard : Claim7 := { stood := { row := certMemoryRow, standIns := [], harness := (true, "d484ec1ffbaf4ce02b72b655cf6199eb32e55eb21df1cd897e840cd64466365c"), looks := true }, kinds := [], alts := [], laidByText := true, laidKinds := [.data, .data, .data], laidTests := true, laidLooks := .later }
def CertMemoryCardSaid : Prop := Claim7.holds Tryd.pinned (.plain (OpenSpec.ofChange certMemorySpec)) certMemoryCard

/-- THE SECOND FORM's CARD OF 'tangramlaw17.CertMemory'. -/
def certMemoryUptoCard : Claim7 := { stood := { row := certMemoryUptoRow, standIns := [], harness := (true, "d484ec1ffbaf4ce02b72b655cf6199eb32e55eb21df1cd897e840cd64466365c"), looks := true }, kinds := [], alts := [], laidByText := true, laidKinds := [.data, .data, .data], laidTests := true, laidLooks := .later }
def CertMemoryUptoCardSaid : Prop := Claim7.holds Tryd.pinned (.plain (OpenSpec.upto certMemorySpec)) certMemoryUptoCard
end Rows
end Go.Proofs.YtodlejemkihjnaaDoor
