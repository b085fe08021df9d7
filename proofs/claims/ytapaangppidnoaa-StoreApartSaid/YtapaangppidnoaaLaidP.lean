/-
  A seat whose rows list no variable: what every row's proof wants of the program.
-/
import Derived.Test.YtapaangppidnoaaRows
import Derived.ProofKit
namespace Go.Proofs.Ytapaangppidnoaa
theorem own : ownKnob Try.prog.godebug = none := by kernel_rfl
end Go.Proofs.Ytapaangppidnoaa
