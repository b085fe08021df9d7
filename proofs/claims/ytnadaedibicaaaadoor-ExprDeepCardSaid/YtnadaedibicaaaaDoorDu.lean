/-
  ExprDeep: signs, brackets, calls and elements in each other: as many as may be open, and the first that is too many is told.
-/
import Derived.Test.YtnadaedibicaaaaDoorDt
import Derived.Test.YtnadaedibicaaaaDoorKn
import Derived.Test.YtnadaedibicaaaaDoorBi
namespace Go.Proofs.YtnadaedibicaaaaDoor
open Go.RowKit
open Px (RT tokAt)
open Pe

theorem dpS_succ (w n : Nat) : cbs (dpS w n) ++ cbs (openW w) = cbs (dpS w (n + 1)) := by
  rw [cbs_add, dpS, dpS, List.replicate_succ', List.flatten_append]; simp
theorem dpE_succ (w n : Nat) : cbs (dpE w n) ++ cbs (shutW w) = cbs (dpE w (n + 1)) := by
  rw [cbs_add, dpE, dpE, List.replicate_succ', List.flatten_append]; simp
theorem openW_len (w : Nat) : (openW w).length = aW w := by
  unfold openW aW
  match w with
  | 0 => rfl
  | 1 => rfl
  | 2 => rfl
  | w + 3 => rfl
theorem shutW_len (w : Nat) : (shutW w).length ≤ 1 := by unfold shutW; split <;> (try split) <;> decide
theorem flat_len (l : List UInt8) : ∀ n, (List.replicate n l).flatten.length = l.length * n
  | 0 => rfl
  | n + 1 => by rw [List.replicate_succ, List.flatten_cons, List.length_append, flat_len l n, Nat.mul_succ, Nat.add_comm]
theorem dpS_len (w n : Nat) : (dpS w n).length ≤ 2 * n := by
  rw [dpS, flat_len, openW_len]; exact Nat.mul_le_mul_right _ (aW_le w).2
theorem dpE_len (w n : Nat) : (dpE w n).length ≤ n + 1 := by
  rw [dpE, List.length_append, flat_len]
  have := Nat.mul_le_mul_right n (shutW_len w)
  simp
  omega
theorem ow_at : ∀ i, i < 4 → (#[.string ⟨#[45]⟩, .string ⟨#[40]⟩, .string ⟨#[102, 40]⟩, .string ⟨#[120, 91]⟩] : Array Value)[i]? = some (.string (cbs (openW i)))
  | 0, _ => rfl
  | 1, _ => rfl
  | 2, _ => rfl
  | 3, _ => rfl
  | k + 4, h => by omega
theorem sw_at : ∀ i, i < 4 → (#[.string ⟨#[]⟩, .string ⟨#[41]⟩, .string ⟨#[41]⟩, .string ⟨#[93]⟩] : Array Value)[i]? = some (.string (cbs (shutW i)))
  | 0, _ => rfl
  | 1, _ => rfl
  | 2, _ => rfl
  | 3, _ => rfl
  | k + 4, h => by omega
theorem eqGuardFault : Tryd.prog.eqGuardType Tryd.prog.depth 25 = false := by kernel_rfl

set_option maxRecDepth 8000 in
set_option maxHeartbeats 4000000 in
theorem deep_out (w : World) (n k o : Int) (h : n < 0 ∨ 60 < n ∨ k < 0 ∨ 3 < k ∨ o < 0 ∨ 60 < o) :
    Calls Tryd.prog 6 #[.int .i64 n, .int .i64 k, .int .i64 o] w fun e w' => e = .returned (.bool true) ∧ Below w.heap.size w w' := by
  by_cases h1 : n < 0
  · have hd1 : decide (n < 0) = true := decide_eq_true h1
    clear h
    go_enter Tryd.func6, Tryd.ntmps6
    go_wp2_with fail
    go_ret
    exact ⟨rfl, Below.refl _ _⟩
  by_cases h2 : 60 < n
  · have hd1 : decide (n < 0) = false := decide_eq_false h1
    have hd2 : decide (60 < n) = true := decide_eq_true h2
    clear h
    go_enter Tryd.func6, Tryd.ntmps6
    go_wp2_with fail
    go_ret
    exact ⟨rfl, Below.refl _ _⟩
  by_cases h3 : k < 0
  · have hd1 : decide (n < 0) = false := decide_eq_false h1
    have hd2 : decide (60 < n) = false := decide_eq_false h2
    have hd3 : decide (k < 0) = true := decide_eq_true h3
    clear h
    go_enter Tryd.func6, Tryd.ntmps6
    go_wp2_with fail
    go_ret
    exact ⟨rfl, Below.refl _ _⟩
  by_cases h4 : 3 < k
  · have hd1 : decide (n < 0) = false := decide_eq_false h1
    have hd2 : decide (60 < n) = false := decide_eq_false h2
    have hd3 : decide (k < 0) = false := decide_eq_false h3
    have hd4 : decide (3 < k) = true := decide_eq_true h4
    clear h
    go_enter Tryd.func6, Tryd.ntmps6
    go_wp2_with fail
    go_ret
    exact ⟨rfl, Below.refl _ _⟩
  by_cases h5 : o < 0
  · have hd1 : decide (n < 0) = false := decide_eq_false h1
    have hd2 : decide (60 < n) = false := decide_eq_false h2
    have hd3 : decide (k < 0) = false := decide_eq_false h3
    have hd4 : decide (3 < k) = false := decide_eq_false h4
    have hd5 : decide (o < 0) = true := decide_eq_true h5
    clear h
    go_enter Tryd.func6, Tryd.ntmps6
    go_wp2_with fail
    go_ret
    exact ⟨rfl, Below.refl _ _⟩
  have h6 : 60 < o := by omega
  have hd1 : decide (n < 0) = false := decide_eq_false h1
  have hd2 : decide (60 < n) = false := decide_eq_false h2
  have hd3 : decide (k < 0) = false := decide_eq_false h3
  have hd4 : decide (3 < k) = false := decide_eq_false h4
  have hd5 : decide (o < 0) = false := decide_eq_false h5
  have hd6 : decide (60 < o) = true := decide_eq_true h6
  clear h
  go_enter Tryd.func6, Tryd.ntmps6
  go_wp2_with fail
  go_ret
  exact ⟨rfl, Below.refl _ _⟩
end Go.Proofs.YtnadaedibicaaaaDoor
