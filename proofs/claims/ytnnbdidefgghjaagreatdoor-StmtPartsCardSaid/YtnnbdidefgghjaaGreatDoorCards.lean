/-
  DERIVED. GIVEN WITH THE SEED: THE CARDS: each row of YtnnbdidefgghjaaGreatDoorRows.lean that lists a variable, with what it lists TIED to the program's text (the seventh form; the later family's looks); each row that meets fmt, with fmt's text TOLD by the authors' own Lean function (tested against real Go, not proved from fmt's source: count such statements apart). THE CARD IS WHAT COUNTS. Prove the row's statement (the work); the ties are given (YtnnbdidefgghjaaGreatDoorTie.lean); close each card by the builder's one call (the guide's Derived/Test/ToyasCard.lean, 'card_holds'). Laid BY PROGRAM, IN A SANDBOX (cutbox-door.mjs). By AI agents, Wed Nov 11 2026. No macro, syntax, notation, axiom, sorry.
-/
import Derived.Test.YtnnbdidefgghjaaGreatDoorRows
import GoSem.ClaimSeven
namespace Go.Proofs.YtnnbdidefgghjaaGreatDoor
namespace Rows

/-- THE TIED CARD OF 'runriglaw4.StmtReads'. -/
def stmtReadsCard : Claim7 := { stood := { row := stmtReadsRow, standIns := [], harness := (true, "c11faeb7505ad0e9c147c2d81a991f9f92a1703e6e021ee28f9ea3afb47882e5"), looks := false }, kinds := [], alts := [], laidByText := true, laidKinds := [.data], laidTests := true, laidLooks := .later }
def StmtReadsCardSaid : Prop := Claim7.holds Tryz.pinned (.plain (OpenSpec.ofChange stmtReadsSpec)) stmtReadsCard

/-- THE TIED CARD OF 'runriglaw4.StmtRaw'. -/
def stmtRawCard : Claim7 := { stood := { row := stmtRawRow, standIns := [], harness := (true, "c11faeb7505ad0e9c147c2d81a991f9f92a1703e6e021ee28f9ea3afb47882e5"), looks := false }, kinds := [], alts := [], laidByText := true, laidKinds := [.data], laidTests := true, laidLooks := .later }
def StmtRawCardSaid : Prop := Claim7.holds Tryz.pinned (.plain (OpenSpec.ofChange stmtRawSpec)) stmtRawCard

/-- THE TIED CARD OF 'runriglaw4.StmtParts'. -/
def stmtPartsCard : Claim7 := { stood := { row := stmtPartsRow, standIns := [], harness := (true, "c11faeb7505ad0e9c147c2d81a991f9f92a1703e6e021ee28f9ea3afb47882e5"), looks := false }, kinds := [], alts := [], laidByText := true, laidKinds := [.data], laidTests := true, laidLooks := .later }
def StmtPartsCardSaid : Prop := Claim7.holds Tryz.pinned (.plain (OpenSpec.ofChange stmtPartsSpec)) stmtPartsCard

/-- THE TIED CARD OF 'runriglaw4.StmtSame'. -/
def stmtSameCard : Claim7 := { stood := { row := stmtSameRow, standIns := [], harness := (true, "c11faeb7505ad0e9c147c2d81a991f9f92a1703e6e021ee28f9ea3afb47882e5"), looks := false }, kinds := [], alts := [], laidByText := true, laidKinds := [.data], laidTests := true, laidLooks := .later }
def StmtSameCardSaid : Prop := Claim7.holds Tryz.pinned (.plain (OpenSpec.ofChange stmtSameSpec)) stmtSameCard

/-- THE SECOND FORM's CARD OF 'runriglaw4.StmtReads'. -/
def stmtReadsUptoCard : Claim7 := { stood := { row := stmtReadsUptoRow, standIns := [], harness := (true, "c11faeb7505ad0e9c147c2d81a991f9f92a1703e6e021ee28f9ea3afb47882e5"), looks := false }, kinds := [], alts := [], laidByText := true, laidKinds := [.data], laidTests := true, laidLooks := .later }
def StmtReadsUptoCardSaid : Prop := Claim7.holds Tryz.pinned (.plain (OpenSpec.upto stmtReadsSpec)) stmtReadsUptoCard

/-- THE SECOND FORM's CARD OF 'runriglaw4.StmtRaw'. -/
def stmtRawUptoCard : Claim7 := { stood := { row := stmtRawUptoRow, standIns := [], harness := (true, "c11faeb7505ad0e9c147c2d81a991f9f92a1703e6e021ee28f9ea3afb47882e5"), looks := false }, kinds := [], alts := [], laidByText := true, laidKinds := [.data], laidTests := true, laidLooks := .later }
def StmtRawUptoCardSaid : Prop := Claim7.holds Tryz.pinned (.plain (OpenSpec.upto stmtRawSpec)) stmtRawUptoCard

/-- THE SECOND FORM's CARD OF 'runriglaw4.StmtParts'. -/
def stmtPartsUptoCard : Claim7 := { stood := { row := stmtPartsUptoRow, standIns := [], harness := (true, "c11faeb7505ad0e9c147c2d81a991f9f92a1703e6e021ee28f9ea3afb47882e5"), looks := false }, kinds := [], alts := [], laidByText := true, laidKinds := [.data], laidTests := true, laidLooks := .later }
def StmtPartsUptoCardSaid : Prop := Claim7.holds Tryz.pinned (.plain (OpenSpec.upto stmtPartsSpec)) stmtPartsUptoCard

/-- THE SECOND FORM's CARD OF 'runriglaw4.StmtSame'. -/
def stmtSameUptoCard : Claim7 := { stood := { row := stmtSameUptoRow, standIns := [], harness := (true, "c11faeb7505ad0e9c147c2d81a991f9f92a1703e6e021ee28f9ea3afb47882e5"), looks := false }, kinds := [], alts := [], laidByText := true, laidKinds := [.data], laidTests := true, laidLooks := .later }
def StmtSameUptoCardSaid : Prop := Claim7.holds Tryz.pinned (.plain (OpenSpec.upto stmtSameSpec)) stmtSameUptoCard
end Rows
end Go.Proofs.YtnnbdidefgghjaaGreatDoor
