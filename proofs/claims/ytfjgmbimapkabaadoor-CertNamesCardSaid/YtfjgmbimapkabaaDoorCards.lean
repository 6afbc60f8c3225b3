/-
  DERIVED. GIVEN WITH THE SEED: THE CARDS: each row of YtfjgmbimapkabaaDoorRows.lean that lists a variable, with what it lists TIED to the program's text (the seventh form; the later family's looks); each row that meets fmt, with fmt's text TOLD by the authors' own Lean function (tested against real Go, not proved from fmt's source: count such statements apart). THE CARD IS WHAT COUNTS. Prove the row's statement (the work); the ties are given (YtfjgmbimapkabaaDoorTie.lean); close each card by the builder's one call (the guide's Derived/Test/ToyasCard.lean, 'card_holds'). Laid BY PROGRAM, IN A SANDBOX (cutbox-door.mjs). By AI agents, Wed Nov 11 2026. No macro, syntax, notation, axiom, sorry.
-/
import Derived.Test.YtfjgmbimapkabaaDoorRows
import GoSem.ClaimSeven
namespace Go.Proofs.YtfjgmbimapkabaaDoor
namespace Rows

/-- THE TIED CARD OF 'tangramlaw17.CertNames'. -/
def certNamesCard : Claim7 := { stood := { row := certNamesRow, standIns := [], harness := (true, "4752ac0f765fa95650a19985a99fb28eccfbeb706b800870088078b3c04cf67b"), looks := true }, kinds := [], alts := [], laidByText := true, laidKinds := [.data, .data, .data], laidTests := true, laidLooks := .later }
def CertNamesCardSaid : Prop := Claim7.holds Tryd.pinned (.plain (OpenSpec.ofChange certNamesSpec)) certNamesCard

/-- THE TIED CARD OF 'tangramlaw17.CertPrints'. -/
def certPrintsCard : Claim7 := { stood := { row := certPrintsRow, standIns := [], harness := (true, "4752ac0f765fa95650a19985a99fb28eccfbeb706b800870088078b3c04cf67b"), looks := true }, kinds := [], alts := [], laidByText := true, laidKinds := [.data, .data, .data], laidTests := true, laidLooks := .later }
def CertPrintsCardSaid : Prop := Claim7.holds Tryd.pinned (.plain (OpenSpec.ofChange certPrintsSpec)) certPrintsCard

/-- THE TIED CARD OF 'tangramlaw17.CertParses'. -/
def certParsesCard : Claim7 := { stood := { row := certParsesRow, standIns := [], harness := (true, "4752ac0f765fa95650a19985a99fb28eccfbeb706b800870088078b3c04cf67b"), looks := true }, kinds := [], alts := [], laidByText := true, laidKinds := [.data, .data, .data], laidTests := true, laidLooks := .later }
def CertParsesCardSaid : Prop := Claim7.holds Tryd.pinned (.plain (OpenSpec.ofChange certParsesSpec)) certParsesCard

/-- THE TIED CARD OF 'tangramlaw17.CertBack'. -/
def certBackCard : Claim7 := { stood := { row := certBackRow, standIns := [], harness := (true, "4752ac0f765fa95650a19985a99fb28eccfbeb706b800870088078b3c04cf67b"), looks := true }, kinds := [], alts := [], laidByText := true, laidKinds := [.data, .data, .data], laidTests := true, laidLooks := .later }
def CertBackCardSaid : Prop := Claim7.holds Tryd.pinned (.plain (OpenSpec.ofChange certBackSpec)) certBackCard

/-- THE TIED CARD OF 'tangramlaw17.CertCut'. -/
def certCutCard : Claim7 := { stood := { row := certCutRow, standIns := [], harness := (true, "4752ac0f765fa95650a19985a99fb28eccfbeb706b800870088078b3c04cf67b"), looks := true }, kinds := [], alts := [], laidByText := true, laidKinds := [.data, .data, .data], laidTests := true, laidLooks := .later }
def CertCutCardSaid : Prop := Claim7.holds Tryd.pinned (.plain (OpenSpec.ofChange certCutSpec)) certCutCard

/-- THE TIED CARD OF 'tangramlaw17.CertUnlike'. -/
def certUnlikeCard : Claim7 := { stood := { row := certUnlikeRow, standIns := [], harness := (true, "4752ac0f765fa95650a19985a99fb28eccfbeb706b800870088078b3c04cf67b"), looks := true }, kinds := [], alts := [], laidByText := true, laidKinds := [.data, .data, .data], laidTests := true, laidLooks := .later }
def CertUnlikeCardSaid : Prop := Claim7.holds Tryd.pinned (.plain (OpenSpec.ofChange certUnlikeSpec)) certUnlikeCard

/-- THE SECOND FORM's CARD OF 'tangramlaw17.CertNames'. -/
def certNamesUptoCard : Claim7 := { stood := { row := certNamesUptoRow, standIns := [], harness := (true, "4752ac0f765fa95650a19985a99fb28eccfbeb706b800870088078b3c04cf67b"), looks := true }, kinds := [], alts := [], laidByText := true, laidKinds := [.data, .data, .data], laidTests := true, laidLooks := .later }
def CertNamesUptoCardSaid : Prop := Claim7.holds Tryd.pinned (.plain (OpenSpec.upto certNamesSpec)) certNamesUptoCard

/-- THE SECOND FORM's CARD OF 'tangramlaw17.CertPrints'. -/
def certPrintsUptoCard : Claim7 := { stood := { row := certPrintsUptoRow, standIns := [], harness := (true, "4752ac0f765fa95650a19985a99fb28eccfbeb706b800870088078b3c04cf67b"), looks := true }, kinds := [], alts := [], laidByText := true, laidKinds := [.data, .data, .data], laidTests := true, laidLooks := .later }
def CertPrintsUptoCardSaid : Prop := Claim7.holds Tryd.pinned (.plain (OpenSpec.upto certPrintsSpec)) certPrintsUptoCard

/-- THE SECOND FORM's CARD OF 'tangramlaw17.CertParses'. -/
def certParsesUptoCard : Claim7 := { stood := { row := certParsesUptoRow, standIns := [], harness := (true, "4752ac0f765fa95650a19985a99fb28eccfbeb706b800870088078b3c04cf67b"), looks := true }, kinds := [], alts := [], laidByText := true, laidKinds := [.data, .data, .data], laidTests := true, laidLooks := .later }
def CertParsesUptoCardSaid : Prop := Claim7.holds Tryd.pinned (.plain (OpenSpec.upto certParsesSpec)) certParsesUptoCard

/-- THE SECOND FORM's CARD OF 'tangramlaw17.CertBack'. -/
def certBackUptoCard : Claim7 := { stood := { row := certBackUptoRow, standIns := [], harness := (true, "4752ac0f765fa95650a19985a99fb28eccfbeb706b800870088078b3c04cf67b"), looks := true }, kinds := [], alts := [], laidByText := true, laidKinds := [.data, .data, .data], laidTests := true, laidLooks := .later }
def CertBackUptoCardSaid : Prop := Claim7.holds Tryd.pinned (.plain (OpenSpec.upto certBackSpec)) certBackUptoCard

/-- THE SECOND FORM's CARD OF 'tangramlaw17.CertCut'. -/
def certCutUptoCard : Claim7 := { stood := { row := certCutUptoRow, standIns := [], harness := (true, "4752ac0f765fa95650a19985a99fb28eccfbeb706b800870088078b3c04cf67b"), looks := true }, kinds := [], alts := [], laidByText := true, laidKinds := [.data, .data, .data], laidTests := true, laidLooks := .later }
def CertCutUptoCardSaid : Prop := Claim7.holds Tryd.pinned (.plain (OpenSpec.upto certCutSpec)) certCutUptoCard

/-- THE SECOND FORM's CARD OF 'tangramlaw17.CertUnlike'. -/
def certUnlikeUptoCard : Claim7 := { stood := { row := certUnlikeUptoRow, standIns := [], harness := (true, "4752ac0f765fa95650a19985a99fb28eccfbeb706b800870088078b3c04cf67b"), looks := true }, kinds := [], alts := [], laidByText := true, laidKinds := [.data, .data, .data], laidTests := true, laidLooks := .later }
def CertUnlikeUptoCardSaid : Prop := Claim7.holds Tryd.pinned (.plain (OpenSpec.upto certUnlikeSpec)) certUnlikeUptoCard
end Rows
end Go.Proofs.YtfjgmbimapkabaaDoor
