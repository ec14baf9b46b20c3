/- a fact of the whole program: how it lifts -/
import Derived.Test.YtoieemgdkpnbfaaL0
namespace Go.Proofs.Ytoieemgdkpnbfaa
open Go.ChangeShapes Go.WideShapes Go.ChangeAt Go.RowKit
set_option linter.unusedVariables false
set_option linter.unusedSimpArgs false
theorem z_lift : Try.pinned.checked.prog.liftsFinal = Rows.traceTimesRow.lifted := by kernel_rfl
end Go.Proofs.Ytoieemgdkpnbfaa
