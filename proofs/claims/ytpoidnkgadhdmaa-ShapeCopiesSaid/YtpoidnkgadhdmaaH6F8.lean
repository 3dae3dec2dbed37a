/- The fixed answer of layer 2's laws. No condition. -/
import Derived.Test.YtpoidnkgadhdmaaH6F7
set_option linter.unusedVariables false
set_option maxRecDepth 100000
namespace Go.Ab.H6
open Go Go.Ab Go.Proofs
theorem r6 : Runs prog 12 [] (B true) := ⟨30, by kernel_rfl⟩
end Go.Ab.H6
