/-
  NARROWER THAN 'FOR EVERY INPUT', by the rows' own cells (each row's printed sentence says how): StmtReads: laid · StmtRaw: laid · StmtParts: laid · StmtSame: laid.
  DERIVED. THE GIVEN ROWS OF THIS SEAT. 4 by the template 'for every input the law returns true; each argument reads behind the call as it read before'; 0 by the template 'total and deterministic' (their statements: YtnnbdidefgghjaaGreatDoorTotals.lean).
  GIVEN WITH THE SEED: the statements are not yours to turn. If you find one false, say at which input.
  Laid BY PROGRAM, IN A SANDBOX (cutbox-rows.mjs): the forced cells as the released guide's own fill.sh prints them over the translation e67bf33707d2befc… (all of the seat's roots in one cut). By AI agents, Wed Nov 11 2026. No macro, syntax, notation, axiom, sorry.
-/
import Derived.Test.YtnnbdidefgghjaaGreatDoorChecked
import GoSem.Claim
import GoSem.ClaimJoined
import GoSem.ClaimMapViews
import Derived.JoinedTies
import Derived.KernelRfl
namespace Go.Proofs.YtnnbdidefgghjaaGreatDoor
/- THE CELL 'sum', in the pinned program and in every row, IS THE sha256 OF THE DUMP (.gsa) THAT YtnnbdidefgghjaaGreatDoorProg.lean LOADS. Nothing in Lean hashes anything: it is a label: what it is worth is what the hold of that sum in a sandbox is worth. -/
noncomputable def Tryz.pinned : Pinned := { name := "ytnnbdidefgghjaagreatdoor", sum := "e67bf33707d2befc29f07369b49af9b6656b28ac75109649758113849eb7aa75", checked := Tryz.checked }
namespace Rows
def none {H : Type} : Left H := { results := [], args := [] }

/- WHAT THE LISTED PACKAGE-LEVEL VARIABLES READ AS WHEN THE CALL BEGINS. Each datum BY PROGRAM (the guide's laid-datum.mjs) off the statement by which the dump's own 'gosem.cut.vars' lays the variable. In a bare row this is a premise. The card (YtnnbdidefgghjaaGreatDoorCards.lean) ties it to the program's text. -/
def laid_runrig_expr_operators {H : Type} : DataW H := .agg [.agg [.lit (.string [124, 124]), .lit (.int .i64 1), .lit (.int .i64 24)], .agg [.lit (.string [38, 38]), .lit (.int .i64 2), .lit (.int .i64 23)], .agg [.lit (.string [60]), .lit (.int .i64 3), .lit (.int .i64 19)], .agg [.lit (.string [60, 61]), .lit (.int .i64 3), .lit (.int .i64 20)], .agg [.lit (.string [61, 61]), .lit (.int .i64 3), .lit (.int .i64 21)], .agg [.lit (.string [33, 61]), .lit (.int .i64 3), .lit (.int .i64 22)], .agg [.lit (.string [43]), .lit (.int .i64 4), .lit (.int .i64 14)], .agg [.lit (.string [45]), .lit (.int .i64 4), .lit (.int .i64 15)], .agg [.lit (.string [42]), .lit (.int .i64 5), .lit (.int .i64 16)], .agg [.lit (.string [47]), .lit (.int .i64 5), .lit (.int .i64 17)], .agg [.lit (.string [37]), .lit (.int .i64 5), .lit (.int .i64 18)]]

/-- 'runriglaw4.StmtReads': WHATEVER THE INPUT: true; the input reads as it did. -/
def stmtReadsSpec : ChangeSpec := { name := "stmtReads", fn := fun _ => fun
  | [d1, d2, d3] => { results := [.lit (.bool true)], args := [d1, d2, d3] }
  | _ => none }
def stmtReadsRow : OpenClaim := { program := "ytnnbdidefgghjaagreatdoor", sum := "e67bf33707d2befc29f07369b49af9b6656b28ac75109649758113849eb7aa75", func := "runrig/runriglaw4.StmtReads", spec := "stmtReads", unfollowed := true, recurses := true, named := ["runrig/expr.operators"], apart := false, laid := [("runrig/expr.operators", laid_runrig_expr_operators)] }
def StmtReadsSaid : Prop := stmtReadsRow.holds Tryz.pinned (OpenSpec.ofChange stmtReadsSpec)

/-- ITS FALSE NEIGHBOUR: 'it returns false'. Refute it at one input. -/
def stmtReadsWrong : ChangeSpec := { name := "stmtReads", fn := fun _ => fun
  | [d1, d2, d3] => { results := [.lit (.bool false)], args := [d1, d2, d3] }
  | _ => none }
def StmtReadsWrongFalsely : Prop := stmtReadsRow.holds Tryz.pinned (OpenSpec.ofChange stmtReadsWrong)

/-- 'runriglaw4.StmtRaw': WHATEVER THE INPUT: true; the input reads as it did. -/
def stmtRawSpec : ChangeSpec := { name := "stmtRaw", fn := fun _ => fun
  | [d1, d2, d3] => { results := [.lit (.bool true)], args := [d1, d2, d3] }
  | _ => none }
def stmtRawRow : OpenClaim := { program := "ytnnbdidefgghjaagreatdoor", sum := "e67bf33707d2befc29f07369b49af9b6656b28ac75109649758113849eb7aa75", func := "runrig/runriglaw4.StmtRaw", spec := "stmtRaw", unfollowed := true, recurses := true, named := ["runrig/expr.operators"], apart := false, laid := [("runrig/expr.operators", laid_runrig_expr_operators)] }
def StmtRawSaid : Prop := stmtRawRow.holds Tryz.pinned (OpenSpec.ofChange stmtRawSpec)

/-- ITS FALSE NEIGHBOUR: 'it returns false'. Refute it at one input. -/
def stmtRawWrong : ChangeSpec := { name := "stmtRaw", fn := fun _ => fun
  | [d1, d2, d3] => { results := [.lit (.bool false)], args := [d1, d2, d3] }
  | _ => none }
def StmtRawWrongFalsely : Prop := stmtRawRow.holds Tryz.pinned (OpenSpec.ofChange stmtRawWrong)

/-- 'runriglaw4.StmtParts': WHATEVER THE INPUT: true; the input reads as it did. -/
def stmtPartsSpec : ChangeSpec := { name := "stmtParts", fn := fun _ => fun
  | [d] => { results := [.lit (.bool true)], args := [d] }
  | _ => none }
def stmtPartsRow : OpenClaim := { program := "ytnnbdidefgghjaagreatdoor", sum := "e67bf33707d2befc29f07369b49af9b6656b28ac75109649758113849eb7aa75", func := "runrig/runriglaw4.StmtParts", spec := "stmtParts", unfollowed := true, recurses := true, named := ["runrig/expr.operators"], apart := false, laid := [("runrig/expr.operators", laid_runrig_expr_operators)] }
def StmtPartsSaid : Prop := stmtPartsRow.holds Tryz.pinned (OpenSpec.ofChange stmtPartsSpec)

/-- ITS FALSE NEIGHBOUR: 'it returns false'. Refute it at one input. -/
def stmtPartsWrong : ChangeSpec := { name := "stmtParts", fn := fun _ => fun
  | [d] => { results := [.lit (.bool false)], args := [d] }
  | _ => none }
def StmtPartsWrongFalsely : Prop := stmtPartsRow.holds Tryz.pinned (OpenSpec.ofChange stmtPartsWrong)

/-- 'runriglaw4.StmtSame': WHATEVER THE INPUT: true; the input reads as it did. -/
def stmtSameSpec : ChangeSpec := { name := "stmtSame", fn := fun _ => fun
  | [d1, d2] => { results := [.lit (.bool true)], args := [d1, d2] }
  | _ => none }
def stmtSameRow : OpenClaim := { program := "ytnnbdidefgghjaagreatdoor", sum := "e67bf33707d2befc29f07369b49af9b6656b28ac75109649758113849eb7aa75", func := "runrig/runriglaw4.StmtSame", spec := "stmtSame", unfollowed := true, recurses := true, named := ["runrig/expr.operators"], apart := false, laid := [("runrig/expr.operators", laid_runrig_expr_operators)] }
def StmtSameSaid : Prop := stmtSameRow.holds Tryz.pinned (OpenSpec.ofChange stmtSameSpec)

/-- ITS FALSE NEIGHBOUR: 'it returns false'. Refute it at one input. -/
def stmtSameWrong : ChangeSpec := { name := "stmtSame", fn := fun _ => fun
  | [d1, d2] => { results := [.lit (.bool false)], args := [d1, d2] }
  | _ => none }
def StmtSameWrongFalsely : Prop := stmtSameRow.holds Tryz.pinned (OpenSpec.ofChange stmtSameWrong)

/- THE SECOND FORM. 'bulk': how many values and letters a reading holds, each counted each time it is reached (what is shared counts as often as it is met; a slice's spare places count too). A statement '..UptoSaid' is the law's where the arguments, and the package variables that the reading takes, are together of bulk at most 1048576: NARROWER than '..Said'. Prove '..Said' where nothing that the law and all that it calls make is longer than what came in: it says more and counts as full. Else prove '..UptoSaid'. A law counts once. -/
mutual
def uptoBulk {H : Type} : DataW H → Nat
  | .lit (.string bytes) => bytes.length + 1
  | .lit _ => 1
  | .nil => 1
  | .ptr d => uptoBulk d + 1
  | .slice elems spare => uptoBulkAll elems + uptoBulkAll spare + 1
  | .agg parts => uptoBulkAll parts + 1
  | .iface _ d => uptoBulk d + 1
  | .map entries => uptoBulkEntries entries + 1
  | .held _ => 1
def uptoBulkAll {H : Type} : List (DataW H) → Nat
  | [] => 0
  | d :: r => uptoBulk d + uptoBulkAll r
def uptoBulkEntries {H : Type} : List (Lit × DataW H) → Nat
  | [] => 0
  | x :: r => uptoBulkEntry x + uptoBulkEntries r
def uptoBulkEntry {H : Type} : Lit × DataW H → Nat
  | (.string bytes, d) => bytes.length + uptoBulk d + 1
  | (_, d) => uptoBulk d + 1
 end
def uptoSmall : (H : Type) → List (DataW H) → Bool := fun _ ds => decide (uptoBulkAll ds ≤ 1048576)
def OpenSpec.upto (s : _root_.Go.ChangeSpec) : _root_.Go.OpenSpec := { _root_.Go.OpenSpec.ofChange s with cond := some uptoSmall }

/-- 'runriglaw4.StmtReads', WHERE WHAT IT READS IS OF BULK AT MOST 1048576: true; the input reads as it did. -/
def stmtReadsUptoRow : OpenClaim := { program := "ytnnbdidefgghjaagreatdoor", sum := "e67bf33707d2befc29f07369b49af9b6656b28ac75109649758113849eb7aa75", func := "runrig/runriglaw4.StmtReads", spec := "stmtReads", unfollowed := true, recurses := true, named := ["runrig/expr.operators"], apart := false, laid := [("runrig/expr.operators", laid_runrig_expr_operators)], narrowed := true }
def StmtReadsUptoSaid : Prop := stmtReadsUptoRow.holds Tryz.pinned (OpenSpec.upto stmtReadsSpec)

/-- 'runriglaw4.StmtRaw', WHERE WHAT IT READS IS OF BULK AT MOST 1048576: true; the input reads as it did. -/
def stmtRawUptoRow : OpenClaim := { program := "ytnnbdidefgghjaagreatdoor", sum := "e67bf33707d2befc29f07369b49af9b6656b28ac75109649758113849eb7aa75", func := "runrig/runriglaw4.StmtRaw", spec := "stmtRaw", unfollowed := true, recurses := true, named := ["runrig/expr.operators"], apart := false, laid := [("runrig/expr.operators", laid_runrig_expr_operators)], narrowed := true }
def StmtRawUptoSaid : Prop := stmtRawUptoRow.holds Tryz.pinned (OpenSpec.upto stmtRawSpec)

/-- 'runriglaw4.StmtParts', WHERE WHAT IT READS IS OF BULK AT MOST 1048576: true; the input reads as it did. -/
def stmtPartsUptoRow : OpenClaim := { program := "ytnnbdidefgghjaagreatdoor", sum := "e67bf33707d2befc29f07369b49af9b6656b28ac75109649758113849eb7aa75", func := "runrig/runriglaw4.StmtParts", spec := "stmtParts", unfollowed := true, recurses := true, named := ["runrig/expr.operators"], apart := false, laid := [("runrig/expr.operators", laid_runrig_expr_operators)], narrowed := true }
def StmtPartsUptoSaid : Prop := stmtPartsUptoRow.holds Tryz.pinned (OpenSpec.upto stmtPartsSpec)

/-- 'runriglaw4.StmtSame', WHERE WHAT IT READS IS OF BULK AT MOST 1048576: true; the input reads as it did. -/
def stmtSameUptoRow : OpenClaim := { program := "ytnnbdidefgghjaagreatdoor", sum := "e67bf33707d2befc29f07369b49af9b6656b28ac75109649758113849eb7aa75", func := "runrig/runriglaw4.StmtSame", spec := "stmtSame", unfollowed := true, recurses := true, named := ["runrig/expr.operators"], apart := false, laid := [("runrig/expr.operators", laid_runrig_expr_operators)], narrowed := true }
def StmtSameUptoSaid : Prop := stmtSameUptoRow.holds Tryz.pinned (OpenSpec.upto stmtSameSpec)

end Rows
end Go.Proofs.YtnnbdidefgghjaaGreatDoor
