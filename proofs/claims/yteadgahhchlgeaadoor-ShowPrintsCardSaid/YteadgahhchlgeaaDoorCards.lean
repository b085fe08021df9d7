/-
  DERIVED. GIVEN WITH THE SEED: THE CARDS: each row of YteadgahhchlgeaaDoorRows.lean that lists a variable, with what it lists TIED to the program's text (the seventh form; the later family's looks); each row that meets fmt, with fmt's text TOLD by the authors' own Lean function (tested against real Go, not proved from fmt's source: count such statements apart). THE CARD IS WHAT COUNTS. Prove the row's statement (the work); the ties are given (YteadgahhchlgeaaDoorTie.lean); close each card by the builder's one call (the guide's Derived/Test/ToyasCard.lean, 'card_holds'). Laid BY PROGRAM, IN A SANDBOX (cutbox-door.mjs). By AI agents, Wed Nov 11 2026. No macro, syntax, notation, axiom, sorry.
-/
import Derived.Test.YteadgahhchlgeaaDoorRows
import GoSem.ClaimSeven
namespace Go.Proofs.YteadgahhchlgeaaDoor
namespace Rows

/-- THE TIED CARD OF 'runriglaw6.ShowPrints'. -/
def showPrintsCard : Claim7 := { stood := { row := showPrintsRow, standIns := [], harness := (true, "5e2c355ad5810f2070198c028a5302702a8ed39eb68c8a6c5c60c68508ecb2d4"), looks := false }, kinds := [], alts := [], laidByText := true, laidKinds := [.data, .data, .data, .data], laidTests := true, laidLooks := .later }
def ShowPrintsCardSaid : Prop := Claim7.holds Tryd.pinned (.plain (OpenSpec.ofChange showPrintsSpec)) showPrintsCard

/-- THE TIED CARD OF 'runriglaw6.ShowSigns'. -/
def showSignsCard : Claim7 := { stood := { row := showSignsRow, standIns := [], harness := (true, "5e2c355ad5810f2070198c028a5302702a8ed39eb68c8a6c5c60c68508ecb2d4"), looks := false }, kinds := [], alts := [], laidByText := true, laidKinds := [.data, .data, .data, .data], laidTests := true, laidLooks := .later }
def ShowSignsCardSaid : Prop := Claim7.holds Tryd.pinned (.plain (OpenSpec.ofChange showSignsSpec)) showSignsCard

/-- THE TIED CARD OF 'runriglaw8.TypedSigns'. -/
def typedSignsCard : Claim7 := { stood := { row := typedSignsRow, standIns := [], harness := (true, "5e2c355ad5810f2070198c028a5302702a8ed39eb68c8a6c5c60c68508ecb2d4"), looks := false }, kinds := [], alts := [], laidByText := true, laidKinds := [.data, .data, .data, .data], laidTests := true, laidLooks := .later }
def TypedSignsCardSaid : Prop := Claim7.holds Tryd.pinned (.plain (OpenSpec.ofChange typedSignsSpec)) typedSignsCard

/-- THE TIED CARD OF 'runriglaw8.TypedKnown'. -/
def typedKnownCard : Claim7 := { stood := { row := typedKnownRow, standIns := [], harness := (true, "5e2c355ad5810f2070198c028a5302702a8ed39eb68c8a6c5c60c68508ecb2d4"), looks := false }, kinds := [], alts := [], laidByText := true, laidKinds := [.data, .data, .data, .data], laidTests := true, laidLooks := .later }
def TypedKnownCardSaid : Prop := Claim7.holds Tryd.pinned (.plain (OpenSpec.ofChange typedKnownSpec)) typedKnownCard

/-- THE SECOND FORM's CARD OF 'runriglaw6.ShowPrints'. -/
def showPrintsUptoCard : Claim7 := { stood := { row := showPrintsUptoRow, standIns := [], harness := (true, "5e2c355ad5810f2070198c028a5302702a8ed39eb68c8a6c5c60c68508ecb2d4"), looks := false }, kinds := [], alts := [], laidByText := true, laidKinds := [.data, .data, .data, .data], laidTests := true, laidLooks := .later }
def ShowPrintsUptoCardSaid : Prop := Claim7.holds Tryd.pinned (.plain (OpenSpec.upto showPrintsSpec)) showPrintsUptoCard

/-- THE SECOND FORM's CARD OF 'runriglaw6.ShowSigns'. -/
def showSignsUptoCard : Claim7 := { stood := { row := showSignsUptoRow, standIns := [], harness := (true, "5e2c355ad5810f2070198c028a5302702a8ed39eb68c8a6c5c60c68508ecb2d4"), looks := false }, kinds := [], alts := [], laidByText := true, laidKinds := [.data, .data, .data, .data], laidTests := true, laidLooks := .later }
def ShowSignsUptoCardSaid : Prop := Claim7.holds Tryd.pinned (.plain (OpenSpec.upto showSignsSpec)) showSignsUptoCard

/-- THE SECOND FORM's CARD OF 'runriglaw8.TypedSigns'. -/
def typedSignsUptoCard : Claim7 := { stood := { row := typedSignsUptoRow, standIns := [], harness := (true, "5e2c355ad5810f2070198c028a5302702a8ed39eb68c8a6c5c60c68508ecb2d4"), looks := false }, kinds := [], alts := [], laidByText := true, laidKinds := [.data, .data, .data, .data], laidTests := true, laidLooks := .later }
def TypedSignsUptoCardSaid : Prop := Claim7.holds Tryd.pinned (.plain (OpenSpec.upto typedSignsSpec)) typedSignsUptoCard

/-- THE SECOND FORM's CARD OF 'runriglaw8.TypedKnown'. -/
def typedKnownUptoCard : Claim7 := { stood := { row := typedKnownUptoRow, standIns := [], harness := (true, "5e2c355ad5810f2070198c028a5302702a8ed39eb68c8a6c5c60c68508ecb2d4"), looks := false }, kinds := [], alts := [], laidByText := true, laidKinds := [.data, .data, .data, .data], laidTests := true, laidLooks := .later }
def TypedKnownUptoCardSaid : Prop := Claim7.holds Tryd.pinned (.plain (OpenSpec.upto typedKnownSpec)) typedKnownUptoCard
end Rows
end Go.Proofs.YteadgahhchlgeaaDoor
