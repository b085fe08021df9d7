/-
  DERIVED. GIVEN WITH THE SEED: THE CARDS: each row of YtnadaedibicaaaaDoorRows.lean that lists a variable, with what it lists TIED to the program's text (the seventh form; the later family's looks); each row that meets fmt, with fmt's text TOLD by the authors' own Lean function (tested against real Go, not proved from fmt's source: count such statements apart). THE CARD IS WHAT COUNTS. Prove the row's statement (the work); the ties are given (YtnadaedibicaaaaDoorTie.lean); close each card by the builder's one call (the guide's Derived/Test/ToyasCard.lean, 'card_holds'). Laid BY PROGRAM, IN A SANDBOX (cutbox-door.mjs). By AI agents, Wed Nov 11 2026. No macro, syntax, notation, axiom, sorry.
-/
import Derived.Test.YtnadaedibicaaaaDoorRows
import GoSem.ClaimSeven
namespace Go.Proofs.YtnadaedibicaaaaDoor
namespace Rows

/-- THE TIED CARD OF 'runriglaw3.ExprReads'. -/
def exprReadsCard : Claim7 := { stood := { row := exprReadsRow, standIns := [], harness := (true, "1d88cf03617acabf3201879a4b802d1c7307c178b192a689698705868b91e350"), looks := false }, kinds := [], alts := [], laidByText := true, laidKinds := [.data], laidTests := true, laidLooks := .later }
def ExprReadsCardSaid : Prop := Claim7.holds Tryd.pinned (.plain (OpenSpec.ofChange exprReadsSpec)) exprReadsCard

/-- THE TIED CARD OF 'runriglaw3.ExprRaw'. -/
def exprRawCard : Claim7 := { stood := { row := exprRawRow, standIns := [], harness := (true, "1d88cf03617acabf3201879a4b802d1c7307c178b192a689698705868b91e350"), looks := false }, kinds := [], alts := [], laidByText := true, laidKinds := [.data], laidTests := true, laidLooks := .later }
def ExprRawCardSaid : Prop := Claim7.holds Tryd.pinned (.plain (OpenSpec.ofChange exprRawSpec)) exprRawCard

/-- THE TIED CARD OF 'runriglaw3.ExprSame'. -/
def exprSameCard : Claim7 := { stood := { row := exprSameRow, standIns := [], harness := (true, "1d88cf03617acabf3201879a4b802d1c7307c178b192a689698705868b91e350"), looks := false }, kinds := [], alts := [], laidByText := true, laidKinds := [.data], laidTests := true, laidLooks := .later }
def ExprSameCardSaid : Prop := Claim7.holds Tryd.pinned (.plain (OpenSpec.ofChange exprSameSpec)) exprSameCard

/-- THE TIED CARD OF 'runriglaw3.ExprDeep'. -/
def exprDeepCard : Claim7 := { stood := { row := exprDeepRow, standIns := [], harness := (true, "1d88cf03617acabf3201879a4b802d1c7307c178b192a689698705868b91e350"), looks := false }, kinds := [], alts := [], laidByText := true, laidKinds := [.data], laidTests := true, laidLooks := .later }
def ExprDeepCardSaid : Prop := Claim7.holds Tryd.pinned (.plain (OpenSpec.ofChange exprDeepSpec)) exprDeepCard

/-- THE TIED CARD OF 'runriglaw3.ExprBinds'. -/
def exprBindsCard : Claim7 := { stood := { row := exprBindsRow, standIns := [], harness := (true, "1d88cf03617acabf3201879a4b802d1c7307c178b192a689698705868b91e350"), looks := false }, kinds := [], alts := [], laidByText := true, laidKinds := [.data], laidTests := true, laidLooks := .later }
def ExprBindsCardSaid : Prop := Claim7.holds Tryd.pinned (.plain (OpenSpec.ofChange exprBindsSpec)) exprBindsCard

/-- THE SECOND FORM's CARD OF 'runriglaw3.ExprReads'. -/
def exprReadsUptoCard : Claim7 := { stood := { row := exprReadsUptoRow, standIns := [], harness := (true, "1d88cf03617acabf3201879a4b802d1c7307c178b192a689698705868b91e350"), looks := false }, kinds := [], alts := [], laidByText := true, laidKinds := [.data], laidTests := true, laidLooks := .later }
def ExprReadsUptoCardSaid : Prop := Claim7.holds Tryd.pinned (.plain (OpenSpec.upto exprReadsSpec)) exprReadsUptoCard

/-- THE SECOND FORM's CARD OF 'runriglaw3.ExprRaw'. -/
def exprRawUptoCard : Claim7 := { stood := { row := exprRawUptoRow, standIns := [], harness := (true, "1d88cf03617acabf3201879a4b802d1c7307c178b192a689698705868b91e350"), looks := false }, kinds := [], alts := [], laidByText := true, laidKinds := [.data], laidTests := true, laidLooks := .later }
def ExprRawUptoCardSaid : Prop := Claim7.holds Tryd.pinned (.plain (OpenSpec.upto exprRawSpec)) exprRawUptoCard

/-- THE SECOND FORM's CARD OF 'runriglaw3.ExprSame'. -/
def exprSameUptoCard : Claim7 := { stood := { row := exprSameUptoRow, standIns := [], harness := (true, "1d88cf03617acabf3201879a4b802d1c7307c178b192a689698705868b91e350"), looks := false }, kinds := [], alts := [], laidByText := true, laidKinds := [.data], laidTests := true, laidLooks := .later }
def ExprSameUptoCardSaid : Prop := Claim7.holds Tryd.pinned (.plain (OpenSpec.upto exprSameSpec)) exprSameUptoCard

/-- THE SECOND FORM's CARD OF 'runriglaw3.ExprDeep'. -/
def exprDeepUptoCard : Claim7 := { stood := { row := exprDeepUptoRow, standIns := [], harness := (true, "1d88cf03617acabf3201879a4b802d1c7307c178b192a689698705868b91e350"), looks := false }, kinds := [], alts := [], laidByText := true, laidKinds := [.data], laidTests := true, laidLooks := .later }
def ExprDeepUptoCardSaid : Prop := Claim7.holds Tryd.pinned (.plain (OpenSpec.upto exprDeepSpec)) exprDeepUptoCard

/-- THE SECOND FORM's CARD OF 'runriglaw3.ExprBinds'. -/
def exprBindsUptoCard : Claim7 := { stood := { row := exprBindsUptoRow, standIns := [], harness := (true, "1d88cf03617acabf3201879a4b802d1c7307c178b192a689698705868b91e350"), looks := false }, kinds := [], alts := [], laidByText := true, laidKinds := [.data], laidTests := true, laidLooks := .later }
def ExprBindsUptoCardSaid : Prop := Claim7.holds Tryd.pinned (.plain (OpenSpec.upto exprBindsSpec)) exprBindsUptoCard
end Rows
end Go.Proofs.YtnadaedibicaaaaDoor
