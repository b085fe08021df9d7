/-
  The walks of chapter 3's laws as their rows want them.
-/
import Derived.Test.YtnadaedibicaaaaDoorBj
namespace Go.Proofs.YtnadaedibicaaaaDoor
open Go.RowKit

theorem exprBinds_walk (i j : Int) (_ : -9223372036854775808 ≤ i ∧ i ≤ 9223372036854775807) (_ : -9223372036854775808 ≤ j ∧ j ≤ 9223372036854775807) (w : World) (he : OpsIn w) :
    Calls Tryd.prog 7 #[.int .i64 i, .int .i64 j] w fun e w' => e = .returned (.bool true) ∧ Below w.heap.size w w' := by
  by_cases h : i < 0 ∨ 11 ≤ i ∨ j < 0 ∨ 11 ≤ j
  · exact binds_out w i j h
  · obtain ⟨a, rfl⟩ : ∃ a : Nat, i = a := ⟨i.toNat, by omega⟩
    obtain ⟨b, rfl⟩ : ∃ b : Nat, j = b := ⟨j.toNat, by omega⟩
    exact binds_in w a b (by omega) (by omega) he
end Go.Proofs.YtnadaedibicaaaaDoor
