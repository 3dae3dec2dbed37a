/- The fixed answer of layer 2's laws. No condition. -/
import Derived.Test.YtbjomheepodapaaF7
set_option linter.unusedVariables false
set_option maxRecDepth 100000
namespace Go.Ab.S2
open Go Go.Ab Go.Proofs
theorem r6 : Runs prog 6 [] (B true) := ⟨30, by kernel_rfl⟩
end Go.Ab.S2
