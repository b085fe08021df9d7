/-
  NARROWER THAN 'FOR EVERY INPUT', by the rows' own cells (each row's printed sentence says how): ExprReads: laid · ExprRaw: laid · ExprSame: loops, laid · ExprDeep: laid · ExprBinds: laid.
  DERIVED. THE GIVEN ROWS OF THIS SEAT. 5 by the template 'for every input the law returns true; each argument reads behind the call as it read before'; 0 by the template 'total and deterministic' (their statements: YtnadaedibicaaaaDoorTotals.lean).
  GIVEN WITH THE SEED: the statements are not yours to turn. If you find one false, say at which input.
  Laid BY PROGRAM, IN A SANDBOX (cutbox-rows.mjs): the forced cells as the released guide's own fill.sh prints them over the translation 2ea275fc05d85701… (all of the seat's roots in one cut). By AI agents, Wed Nov 11 2026. No macro, syntax, notation, axiom, sorry.
-/
import Derived.Test.YtnadaedibicaaaaDoorChecked
import GoSem.Claim
import GoSem.ClaimJoined
import GoSem.ClaimMapViews
import Derived.JoinedTies
import Derived.KernelRfl
namespace Go.Proofs.YtnadaedibicaaaaDoor
/- THE CELL 'sum', in the pinned program and in every row, IS THE sha256 OF THE DUMP (.gsa) THAT YtnadaedibicaaaaDoorProg.lean LOADS. Nothing in Lean hashes anything: it is a label: what it is worth is what the hold of that sum in a sandbox is worth. -/
noncomputable def Tryd.pinned : Pinned := { name := "ytnadaedibicaaaadoor", sum := "2ea275fc05d857018dc2808d9647211ee182f88e3a8890f4e6ddd29d5b98ed7d", checked := Tryd.checked }
namespace Rows
def none {H : Type} : Left H := { results := [], args := [] }

/- WHAT THE LISTED PACKAGE-LEVEL VARIABLES READ AS WHEN THE CALL BEGINS. Each datum BY PROGRAM (the guide's laid-datum.mjs) off the statement by which the dump's own 'gosem.cut.vars' lays the variable. In a bare row this is a premise. The card (YtnadaedibicaaaaDoorCards.lean) ties it to the program's text. -/
def laid_runrig_expr_operators {H : Type} : DataW H := .agg [.agg [.lit (.string [124, 124]), .lit (.int .i64 1), .lit (.int .i64 24)], .agg [.lit (.string [38, 38]), .lit (.int .i64 2), .lit (.int .i64 23)], .agg [.lit (.string [60]), .lit (.int .i64 3), .lit (.int .i64 19)], .agg [.lit (.string [60, 61]), .lit (.int .i64 3), .lit (.int .i64 20)], .agg [.lit (.string [61, 61]), .lit (.int .i64 3), .lit (.int .i64 21)], .agg [.lit (.string [33, 61]), .lit (.int .i64 3), .lit (.int .i64 22)], .agg [.lit (.string [43]), .lit (.int .i64 4), .lit (.int .i64 14)], .agg [.lit (.string [45]), .lit (.int .i64 4), .lit (.int .i64 15)], .agg [.lit (.string [42]), .lit (.int .i64 5), .lit (.int .i64 16)], .agg [.lit (.string [47]), .lit (.int .i64 5), .lit (.int .i64 17)], .agg [.lit (.string [37]), .lit (.int .i64 5), .lit (.int .i64 18)]]

/-- 'runriglaw3.ExprReads': WHATEVER THE INPUT: true; the input reads as it did. -/
def exprReadsSpec : ChangeSpec := { name := "exprReads", fn := fun _ => fun
  | [d1, d2, d3] => { results := [.lit (.bool true)], args := [d1, d2, d3] }
  | _ => none }
def exprReadsRow : OpenClaim := { program := "ytnadaedibicaaaadoor", sum := "2ea275fc05d857018dc2808d9647211ee182f88e3a8890f4e6ddd29d5b98ed7d", func := "runrig/runriglaw3.ExprReads", spec := "exprReads", unfollowed := true, recurses := true, named := ["runrig/expr.operators"], apart := false, laid := [("runrig/expr.operators", laid_runrig_expr_operators)] }
def ExprReadsSaid : Prop := exprReadsRow.holds Tryd.pinned (OpenSpec.ofChange exprReadsSpec)

/-- ITS FALSE NEIGHBOUR: 'it returns false'. Refute it at one input. -/
def exprReadsWrong : ChangeSpec := { name := "exprReads", fn := fun _ => fun
  | [d1, d2, d3] => { results := [.lit (.bool false)], args := [d1, d2, d3] }
  | _ => none }
def ExprReadsWrongFalsely : Prop := exprReadsRow.holds Tryd.pinned (OpenSpec.ofChange exprReadsWrong)

/-- 'runriglaw3.ExprRaw': WHATEVER THE INPUT: true; the input reads as it did. -/
def exprRawSpec : ChangeSpec := { name := "exprRaw", fn := fun _ => fun
  | [d1, d2, d3] => { results := [.lit (.bool true)], args := [d1, d2, d3] }
  | _ => none }
def exprRawRow : OpenClaim := { program := "ytnadaedibicaaaadoor", sum := "2ea275fc05d857018dc2808d9647211ee182f88e3a8890f4e6ddd29d5b98ed7d", func := "runrig/runriglaw3.ExprRaw", spec := "exprRaw", unfollowed := true, recurses := true, named := ["runrig/expr.operators"], apart := false, laid := [("runrig/expr.operators", laid_runrig_expr_operators)] }
def ExprRawSaid : Prop := exprRawRow.holds Tryd.pinned (OpenSpec.ofChange exprRawSpec)

/-- ITS FALSE NEIGHBOUR: 'it returns false'. Refute it at one input. -/
def exprRawWrong : ChangeSpec := { name := "exprRaw", fn := fun _ => fun
  | [d1, d2, d3] => { results := [.lit (.bool false)], args := [d1, d2, d3] }
  | _ => none }
def ExprRawWrongFalsely : Prop := exprRawRow.holds Tryd.pinned (OpenSpec.ofChange exprRawWrong)

/-- 'runriglaw3.ExprSame': WHATEVER THE INPUT: true; the input reads as it did. -/
def exprSameSpec : ChangeSpec := { name := "exprSame", fn := fun _ => fun
  | [d1, d2, d3] => { results := [.lit (.bool true)], args := [d1, d2, d3] }
  | _ => none }
def exprSameRow : OpenClaim := { program := "ytnadaedibicaaaadoor", sum := "2ea275fc05d857018dc2808d9647211ee182f88e3a8890f4e6ddd29d5b98ed7d", func := "runrig/runriglaw3.ExprSame", spec := "exprSame", unfollowed := true, recurses := true, named := ["runrig/expr.operators"], loops := true, apart := false, laid := [("runrig/expr.operators", laid_runrig_expr_operators)] }
def ExprSameSaid : Prop := exprSameRow.holds Tryd.pinned (OpenSpec.ofChange exprSameSpec)

/-- ITS FALSE NEIGHBOUR: 'it returns false'. Refute it at one input. -/
def exprSameWrong : ChangeSpec := { name := "exprSame", fn := fun _ => fun
  | [d1, d2, d3] => { results := [.lit (.bool false)], args := [d1, d2, d3] }
  | _ => none }
def ExprSameWrongFalsely : Prop := exprSameRow.holds Tryd.pinned (OpenSpec.ofChange exprSameWrong)

/-- 'runriglaw3.ExprDeep': WHATEVER THE INPUT: true; the input reads as it did. -/
def exprDeepSpec : ChangeSpec := { name := "exprDeep", fn := fun _ => fun
  | [d1, d2, d3] => { results := [.lit (.bool true)], args := [d1, d2, d3] }
  | _ => none }
def exprDeepRow : OpenClaim := { program := "ytnadaedibicaaaadoor", sum := "2ea275fc05d857018dc2808d9647211ee182f88e3a8890f4e6ddd29d5b98ed7d", func := "runrig/runriglaw3.ExprDeep", spec := "exprDeep", unfollowed := true, recurses := true, named := ["runrig/expr.operators"], apart := false, laid := [("runrig/expr.operators", laid_runrig_expr_operators)] }
def ExprDeepSaid : Prop := exprDeepRow.holds Tryd.pinned (OpenSpec.ofChange exprDeepSpec)

/-- ITS FALSE NEIGHBOUR: 'it returns false'. Refute it at one input. -/
def exprDeepWrong : ChangeSpec := { name := "exprDeep", fn := fun _ => fun
  | [d1, d2, d3] => { results := [.lit (.bool false)], args := [d1, d2, d3] }
  | _ => none }
def ExprDeepWrongFalsely : Prop := exprDeepRow.holds Tryd.pinned (OpenSpec.ofChange exprDeepWrong)

/-- 'runriglaw3.ExprBinds': WHATEVER THE INPUT: true; the input reads as it did. -/
def exprBindsSpec : ChangeSpec := { name := "exprBinds", fn := fun _ => fun
  | [d1, d2] => { results := [.lit (.bool true)], args := [d1, d2] }
  | _ => none }
def exprBindsRow : OpenClaim := { program := "ytnadaedibicaaaadoor", sum := "2ea275fc05d857018dc2808d9647211ee182f88e3a8890f4e6ddd29d5b98ed7d", func := "runrig/runriglaw3.ExprBinds", spec := "exprBinds", unfollowed := true, recurses := true, named := ["runrig/expr.operators"], apart := false, laid := [("runrig/expr.operators", laid_runrig_expr_operators)] }
def ExprBindsSaid : Prop := exprBindsRow.holds Tryd.pinned (OpenSpec.ofChange exprBindsSpec)

/-- ITS FALSE NEIGHBOUR: 'it returns false'. Refute it at one input. -/
def exprBindsWrong : ChangeSpec := { name := "exprBinds", fn := fun _ => fun
  | [d1, d2] => { results := [.lit (.bool false)], args := [d1, d2] }
  | _ => none }
def ExprBindsWrongFalsely : Prop := exprBindsRow.holds Tryd.pinned (OpenSpec.ofChange exprBindsWrong)

/- THE SECOND FORM. 'bulk': how many values and letters a reading holds, each counted each time it is reached (what is shared counts as often as it is met; a slice's spare places count too). A statement '..UptoSaid' is the law's where the arguments, and the package variables that the reading takes, are together of bulk at most 1048576: NARROWER than '..Said'. Prove '..Said' where nothing that the law and all that it calls make is longer than what came in: it says more and counts as full. Else prove '..UptoSaid'. A law counts once. -/
mutual
def uptoBulk {H : Type} : DataW H → Nat
  | .lit (.string bytes) => bytes.length + 1
  | .lit _ => 1
  | .nil => 1
  | .ptr d => uptoBulk d + 1
  | .slice elems spare => uptoBulkAll elems + uptoBulkAll spare + 1
  | .agg parts => uptoBulkAll parts + 1
  | .iface _ d => uptoBulk d + 1
  | .map entries => uptoBulkEntries entries + 1
  | .held _ => 1
def uptoBulkAll {H : Type} : List (DataW H) → Nat
  | [] => 0
  | d :: r => uptoBulk d + uptoBulkAll r
def uptoBulkEntries {H : Type} : List (Lit × DataW H) → Nat
  | [] => 0
  | x :: r => uptoBulkEntry x + uptoBulkEntries r
def uptoBulkEntry {H : Type} : Lit × DataW H → Nat
  | (.string bytes, d) => bytes.length + uptoBulk d + 1
  | (_, d) => uptoBulk d + 1
 end
def uptoSmall : (H : Type) → List (DataW H) → Bool := fun _ ds => decide (uptoBulkAll ds ≤ 1048576)
def OpenSpec.upto (s : _root_.Go.ChangeSpec) : _root_.Go.OpenSpec := { _root_.Go.OpenSpec.ofChange s with cond := some uptoSmall }

/-- 'runriglaw3.ExprReads', WHERE WHAT IT READS IS OF BULK AT MOST 1048576: true; the input reads as it did. -/
def exprReadsUptoRow : OpenClaim := { program := "ytnadaedibicaaaadoor", sum := "2ea275fc05d857018dc2808d9647211ee182f88e3a8890f4e6ddd29d5b98ed7d", func := "runrig/runriglaw3.ExprReads", spec := "exprReads", unfollowed := true, recurses := true, named := ["runrig/expr.operators"], apart := false, laid := [("runrig/expr.operators", laid_runrig_expr_operators)], narrowed := true }
def ExprReadsUptoSaid : Prop := exprReadsUptoRow.holds Tryd.pinned (OpenSpec.upto exprReadsSpec)

/-- 'runriglaw3.ExprRaw', WHERE WHAT IT READS IS OF BULK AT MOST 1048576: true; the input reads as it did. -/
def exprRawUptoRow : OpenClaim := { program := "ytnadaedibicaaaadoor", sum := "2ea275fc05d857018dc2808d9647211ee182f88e3a8890f4e6ddd29d5b98ed7d", func := "runrig/runriglaw3.ExprRaw", spec := "exprRaw", unfollowed := true, recurses := true, named := ["runrig/expr.operators"], apart := false, laid := [("runrig/expr.operators", laid_runrig_expr_operators)], narrowed := true }
def ExprRawUptoSaid : Prop := exprRawUptoRow.holds Tryd.pinned (OpenSpec.upto exprRawSpec)

/-- 'runriglaw3.ExprSame', WHERE WHAT IT READS IS OF BULK AT MOST 1048576: true; the input reads as it did. -/
def exprSameUptoRow : OpenClaim := { program := "ytnadaedibicaaaadoor", sum := "2ea275fc05d857018dc2808d9647211ee182f88e3a8890f4e6ddd29d5b98ed7d", func := "runrig/runriglaw3.ExprSame", spec := "exprSame", unfollowed := true, recurses := true, named := ["runrig/expr.operators"], loops := true, apart := false, laid := [("runrig/expr.operators", laid_runrig_expr_operators)], narrowed := true }
def ExprSameUptoSaid : Prop := exprSameUptoRow.holds Tryd.pinned (OpenSpec.upto exprSameSpec)

/-- 'runriglaw3.ExprDeep', WHERE WHAT IT READS IS OF BULK AT MOST 1048576: true; the input reads as it did. -/
def exprDeepUptoRow : OpenClaim := { program := "ytnadaedibicaaaadoor", sum := "2ea275fc05d857018dc2808d9647211ee182f88e3a8890f4e6ddd29d5b98ed7d", func := "runrig/runriglaw3.ExprDeep", spec := "exprDeep", unfollowed := true, recurses := true, named := ["runrig/expr.operators"], apart := false, laid := [("runrig/expr.operators", laid_runrig_expr_operators)], narrowed := true }
def ExprDeepUptoSaid : Prop := exprDeepUptoRow.holds Tryd.pinned (OpenSpec.upto exprDeepSpec)

/-- 'runriglaw3.ExprBinds', WHERE WHAT IT READS IS OF BULK AT MOST 1048576: true; the input reads as it did. -/
def exprBindsUptoRow : OpenClaim := { program := "ytnadaedibicaaaadoor", sum := "2ea275fc05d857018dc2808d9647211ee182f88e3a8890f4e6ddd29d5b98ed7d", func := "runrig/runriglaw3.ExprBinds", spec := "exprBinds", unfollowed := true, recurses := true, named := ["runrig/expr.operators"], apart := false, laid := [("runrig/expr.operators", laid_runrig_expr_operators)], narrowed := true }
def ExprBindsUptoSaid : Prop := exprBindsUptoRow.holds Tryd.pinned (OpenSpec.upto exprBindsSpec)

end Rows
end Go.Proofs.YtnadaedibicaaaaDoor
