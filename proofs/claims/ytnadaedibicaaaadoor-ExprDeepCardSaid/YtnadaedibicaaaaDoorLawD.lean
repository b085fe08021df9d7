/-
  ExprDeep's walk as its row wants it.
-/
import Derived.Test.YtnadaedibicaaaaDoorDv
namespace Go.Proofs.YtnadaedibicaaaaDoor
open Go.RowKit

theorem exprDeep_walk (n k o : Int) (_ : -9223372036854775808 ≤ n ∧ n ≤ 9223372036854775807) (_ : -9223372036854775808 ≤ k ∧ k ≤ 9223372036854775807) (_ : -9223372036854775808 ≤ o ∧ o ≤ 9223372036854775807) (w : World) (he : OpsIn w) :
    Calls Tryd.prog 6 #[.int .i64 n, .int .i64 k, .int .i64 o] w fun e w' => e = .returned (.bool true) ∧ Below w.heap.size w w' := by
  by_cases h : n < 0 ∨ 60 < n ∨ k < 0 ∨ 3 < k ∨ o < 0 ∨ 60 < o
  · exact deep_out w n k o h
  · obtain ⟨a, rfl⟩ : ∃ a : Nat, n = a := ⟨n.toNat, by omega⟩
    obtain ⟨b, rfl⟩ : ∃ b : Nat, k = b := ⟨k.toNat, by omega⟩
    obtain ⟨c, rfl⟩ : ∃ c : Nat, o = c := ⟨o.toNat, by omega⟩
    obtain rfl | rfl | rfl | rfl : b = 0 ∨ b = 1 ∨ b = 2 ∨ b = 3 := by omega
    · exact deep_in0 w a c (by omega) (by omega) he
    · exact deep_in1 w a c (by omega) (by omega) he
    · exact deep_in2 w a c (by omega) (by omega) he
    · exact deep_in3 w a c (by omega) (by omega) he
end Go.Proofs.YtnadaedibicaaaaDoor
