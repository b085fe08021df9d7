/-
  DERIVED. GIVEN WITH THE SEED: THE CARDS: each row of YtnnbdidefgghjaaDoorRows.lean that lists a variable, with what it lists TIED to the program's text (the seventh form; the later family's looks); each row that meets fmt, with fmt's text TOLD by the authors' own Lean function (tested against real Go, not proved from fmt's source: count such statements apart). THE CARD IS WHAT COUNTS. Prove the row's statement (the work); the ties are given (YtnnbdidefgghjaaDoorTie.lean); close each card by the builder's one call (the guide's Derived/Test/ToyasCard.lean, 'card_holds'). Laid BY PROGRAM, IN A SANDBOX (cutbox-door.mjs). By AI agents, Wed Nov 11 2026. No macro, syntax, notation, axiom, sorry.
-/
import Derived.Test.YtnnbdidefgghjaaDoorRows
import GoSem.ClaimSeven
namespace Go.Proofs.YtnnbdidefgghjaaDoor
namespace Rows

/-- THE TIED CARD OF 'runriglaw4.StmtDeep'. -/
def stmtDeepCard : Claim7 := { stood := { row := stmtDeepRow, standIns := [], harness := (true, "f605a1bb7257240cbbc0d9d2c3fc6633aa7de984e8be39e82c3c0510c695ed54"), looks := false }, kinds := [], alts := [], laidByText := true, laidKinds := [.data], laidTests := true, laidLooks := .later }
def StmtDeepCardSaid : Prop := Claim7.holds Tryd.pinned (.plain (OpenSpec.ofChange stmtDeepSpec)) stmtDeepCard

/-- THE TIED CARD OF 'runriglaw4.StmtOdd'. -/
def stmtOddCard : Claim7 := { stood := { row := stmtOddRow, standIns := [], harness := (true, "f605a1bb7257240cbbc0d9d2c3fc6633aa7de984e8be39e82c3c0510c695ed54"), looks := false }, kinds := [], alts := [], laidByText := true, laidKinds := [.data], laidTests := true, laidLooks := .later }
def StmtOddCardSaid : Prop := Claim7.holds Tryd.pinned (.plain (OpenSpec.ofChange stmtOddSpec)) stmtOddCard

/-- THE TIED CARD OF 'runriglaw3.ExprParens'. -/
def exprParensCard : Claim7 := { stood := { row := exprParensRow, standIns := [], harness := (true, "f605a1bb7257240cbbc0d9d2c3fc6633aa7de984e8be39e82c3c0510c695ed54"), looks := false }, kinds := [], alts := [], laidByText := true, laidKinds := [.data], laidTests := true, laidLooks := .later }
def ExprParensCardSaid : Prop := Claim7.holds Tryd.pinned (.plain (OpenSpec.ofChange exprParensSpec)) exprParensCard

/-- THE SECOND FORM's CARD OF 'runriglaw4.StmtDeep'. -/
def stmtDeepUptoCard : Claim7 := { stood := { row := stmtDeepUptoRow, standIns := [], harness := (true, "f605a1bb7257240cbbc0d9d2c3fc6633aa7de984e8be39e82c3c0510c695ed54"), looks := false }, kinds := [], alts := [], laidByText := true, laidKinds := [.data], laidTests := true, laidLooks := .later }
def StmtDeepUptoCardSaid : Prop := Claim7.holds Tryd.pinned (.plain (OpenSpec.upto stmtDeepSpec)) stmtDeepUptoCard

/-- THE SECOND FORM's CARD OF 'runriglaw4.StmtOdd'. -/
def stmtOddUptoCard : Claim7 := { stood := { row := stmtOddUptoRow, standIns := [], harness := (true, "f605a1bb7257240cbbc0d9d2c3fc6633aa7de984e8be39e82c3c0510c695ed54"), looks := false }, kinds := [], alts := [], laidByText := true, laidKinds := [.data], laidTests := true, laidLooks := .later }
def StmtOddUptoCardSaid : Prop := Claim7.holds Tryd.pinned (.plain (OpenSpec.upto stmtOddSpec)) stmtOddUptoCard

/-- THE SECOND FORM's CARD OF 'runriglaw3.ExprParens'. -/
def exprParensUptoCard : Claim7 := { stood := { row := exprParensUptoRow, standIns := [], harness := (true, "f605a1bb7257240cbbc0d9d2c3fc6633aa7de984e8be39e82c3c0510c695ed54"), looks := false }, kinds := [], alts := [], laidByText := true, laidKinds := [.data], laidTests := true, laidLooks := .later }
def ExprParensUptoCardSaid : Prop := Claim7.holds Tryd.pinned (.plain (OpenSpec.upto exprParensSpec)) exprParensUptoCard
end Rows
end Go.Proofs.YtnnbdidefgghjaaDoor
