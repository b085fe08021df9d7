/-
  The contracts of num.truth, num.divide, num.Bin, num.Un and of the document's answer (runrigref1) for them: what each returns at every operator and operands.
-/
import Derived.Test.YtbmnokpkbcelkaaDoorProg
import Derived.WalkKit
import Derived.Lib.Hide
import Derived.Outline
namespace Go.Proofs.YtbmnokpkbcelkaaDoor
open Go.RowKit

def truthV (b : Bool) : Int := if b then 1 else 0
/-- The result and the trap of a binary operator. -/
def divV (op a b : Int) : Int := if b = 0 then 0 else if op = 17 then wrap64 (a.tdiv b) else a.tmod b
def divT (b : Int) : Int := if b = 0 then 3 else 0
def binV (op a b : Int) : Int :=
  if op = 14 then wrap64 (a + b) else if op = 15 then wrap64 (a - b) else if op = 16 then wrap64 (a * b)
  else if op = 17 then divV op a b else if op = 18 then divV op a b
  else if op = 19 then truthV (decide (a < b)) else if op = 20 then truthV (decide (a ≤ b)) else if op = 21 then truthV (a == b) else if op = 22 then truthV (a != b)
  else if op = 23 then truthV (a != 0 && b != 0) else if op = 24 then truthV (a != 0 || b != 0) else 0
def binT (op b : Int) : Int := if op = 17 then divT b else if op = 18 then divT b else 0
def unV (op a : Int) : Int := if op = 12 then wrap64 (-a) else if op = 13 then truthV (a == 0) else 0

set_option maxHeartbeats 400000 in
theorem truth_any (b : Bool) (w : World) : Calls Tryd.prog 16 #[.bool b] w fun e w' => e = .returned (.int .i64 (truthV b)) ∧ w = w' := by
  cases b
  · go_enter Tryd.func16, Tryd.ntmps16
    go_wp2
    go_ret
    exact ⟨rfl, rfl⟩
  · go_enter Tryd.func16, Tryd.ntmps16
    go_wp2
    go_ret
    exact ⟨rfl, rfl⟩
set_option maxHeartbeats 400000 in
theorem divide_any (op a b : Int) (w : World) : Calls Tryd.prog 15 #[.int .i64 op, .int .i64 a, .int .i64 b] w fun e w' => e = .returned (.tuple #[.int .i64 (divV op a b), .int .i64 (divT b)]) ∧ w = w' := by
  by_cases hb : b = 0
  · subst hb
    go_enter Tryd.func15, Tryd.ntmps15
    go_wp2
    go_ret2
    exact ⟨rfl, rfl⟩
  · have hB : (b == 0) = false := by simpa using hb
    go_enter Tryd.func15, Tryd.ntmps15
    go_wp2
    all_goals go_ret2
    all_goals refine ⟨?_, rfl⟩
    all_goals simp_all [divV, divT]
set_option maxHeartbeats 400000 in
theorem bin_any (op a b : Int) (w : World) : Calls Tryd.prog 8 #[.int .i64 op, .int .i64 a, .int .i64 b] w fun e w' => e = .returned (.tuple #[.int .i64 (binV op a b), .int .i64 (binT op b)]) ∧ w = w' := by
  go_enter Tryd.func8, Tryd.ntmps8
  go_wp2_with (first | (go_at_call 16; refine (truth_any _ _).mono ?_; rintro e w' ⟨rfl, rfl⟩) | (go_at_call 15; refine (divide_any _ _ _ _).mono ?_; rintro e w' ⟨rfl, rfl⟩))
  all_goals go_ret2
  all_goals refine ⟨?_, rfl⟩
  all_goals simp_all [binV, binT]
  all_goals (have h0 : (a != 0) = true := by simpa using ‹¬ a = 0›)
  all_goals (rw [h0]; rfl)
set_option maxHeartbeats 400000 in
theorem un_any (op a : Int) (w : World) : Calls Tryd.prog 10 #[.int .i64 op, .int .i64 a] w fun e w' => e = .returned (.int .i64 (unV op a)) ∧ w = w' := by
  go_enter Tryd.func10, Tryd.ntmps10
  go_wp2_with (go_at_call 16; refine (truth_any _ _).mono ?_; rintro e w' ⟨rfl, rfl⟩)
  all_goals go_ret
  all_goals refine ⟨?_, rfl⟩
  all_goals simp_all [unV]
set_option maxHeartbeats 400000 in
theorem bool01_any (b : Bool) (w : World) : Calls Tryd.prog 18 #[.bool b] w fun e w' => e = .returned (.int .i64 (truthV b)) ∧ w = w' := by
  cases b
  · go_enter Tryd.func18, Tryd.ntmps18
    go_wp2
    go_ret
    exact ⟨rfl, rfl⟩
  · go_enter Tryd.func18, Tryd.ntmps18
    go_wp2
    go_ret
    exact ⟨rfl, rfl⟩
set_option maxHeartbeats 400000 in
theorem refDivide_any (op a b : Int) (w : World) : Calls Tryd.prog 17 #[.int .i64 op, .int .i64 a, .int .i64 b] w fun e w' => e = .returned (.tuple #[.int .i64 (divV op a b), .int .i64 (divT b)]) ∧ w = w' := by
  by_cases hb : b = 0
  · subst hb
    go_enter Tryd.func17, Tryd.ntmps17
    go_wp2
    go_ret2
    exact ⟨rfl, rfl⟩
  · have hB : (b == 0) = false := by simpa using hb
    by_cases hm : b = -1
    · subst hm
      clear hb hB
      go_enter Tryd.func17, Tryd.ntmps17
      go_wp2
      all_goals go_ret2
      all_goals refine ⟨?_, rfl⟩
      all_goals simp_all [divV, divT, Int.tdiv_neg, Int.tdiv_one]
    have hM : (b == -1) = false := by simpa using hm
    go_enter Tryd.func17, Tryd.ntmps17
    go_wp2
    all_goals go_ret2
    all_goals refine ⟨?_, rfl⟩
    all_goals simp_all [divV, divT]
set_option maxHeartbeats 400000 in
theorem refBin_any (op a b : Int) (w : World) : Calls Tryd.prog 9 #[.int .i64 op, .int .i64 a, .int .i64 b] w fun e w' => e = .returned (.tuple #[.int .i64 (binV op a b), .int .i64 (binT op b)]) ∧ w = w' := by
  go_enter Tryd.func9, Tryd.ntmps9
  go_wp2_with (first | (go_at_call 18; refine (bool01_any _ _).mono ?_; rintro e w' ⟨rfl, rfl⟩) | (go_at_call 17; refine (refDivide_any _ _ _ _).mono ?_; rintro e w' ⟨rfl, rfl⟩))
  all_goals go_ret2
  all_goals refine ⟨?_, rfl⟩
  all_goals simp_all [binV, binT]
  all_goals (have h0 : (a != 0) = true := by simpa using ‹¬ a = 0›)
  all_goals (rw [h0]; rfl)
set_option maxHeartbeats 400000 in
theorem refUn_any (op a : Int) (w : World) : Calls Tryd.prog 11 #[.int .i64 op, .int .i64 a] w fun e w' => e = .returned (.int .i64 (unV op a)) ∧ w = w' := by
  go_enter Tryd.func11, Tryd.ntmps11
  go_wp2_with (go_at_call 18; refine (bool01_any _ _).mono ?_; rintro e w' ⟨rfl, rfl⟩)
  all_goals go_ret
  all_goals refine ⟨?_, rfl⟩
  all_goals simp_all [unV]
end Go.Proofs.YtbmnokpkbcelkaaDoor
