/- a fact of the whole program: it may enter -/
import Derived.Test.YtoieemgdkpnbfaaL0
namespace Go.Proofs.Ytoieemgdkpnbfaa
open Go.ChangeShapes Go.WideShapes Go.ChangeAt Go.RowKit
set_option linter.unusedVariables false
set_option linter.unusedSimpArgs false
theorem z_enter : Try.pinned.checked.prog.mayEnter = true := by kernel_rfl
end Go.Proofs.Ytoieemgdkpnbfaa
