/- a fact of the whole program: how it was made -/
import Derived.Test.YtoieemgdkpnbfaaL0
namespace Go.Proofs.Ytoieemgdkpnbfaa
open Go.ChangeShapes Go.WideShapes Go.ChangeAt Go.RowKit
set_option linter.unusedVariables false
set_option linter.unusedSimpArgs false
theorem z_make : Try.pinned.checked.prog.make = some Rows.traceTimesRow.make := by kernel_rfl
end Go.Proofs.Ytoieemgdkpnbfaa
