/- facts of the whole program, for all rows -/
import Derived.Test.YtoieemgdkpnbfaaFZ1
import Derived.Test.YtoieemgdkpnbfaaFZ2
import Derived.Test.YtoieemgdkpnbfaaFZ3
namespace Go.Proofs.Ytoieemgdkpnbfaa
open Go.ChangeShapes Go.WideShapes Go.ChangeAt Go.RowKit
set_option linter.unusedVariables false
set_option linter.unusedSimpArgs false
theorem z_laid : laidOutB Try.pinned.checked.prog = true := by kernel_rfl
theorem z_maps : mapsRowed Try.pinned.checked.prog = true := by kernel_rfl
theorem z_heard : Try.pinned.checked.prog.stopsHeard = true := by kernel_rfl
theorem z_plain : Try.pinned.checked.prog.plainKeys = Rows.traceTimesRow.plainKeys := by kernel_rfl
theorem and_mk {a b : Bool} (h : a = true) (k : b = true) : (a && b) = true := by rw [h, k]; rfl
theorem z_liftB {b : Bool} (h : b = Rows.traceTimesRow.lifted) : (b == Try.pinned.checked.prog.liftsFinal) = true := by rw [z_lift, h]; kernel_rfl
theorem z_makeB {m : Make} (h : m = Rows.traceTimesRow.make) : (Try.pinned.checked.prog.make == some m) = true := by rw [z_make, h]; kernel_rfl
theorem z_plainB {b : Bool} (h : b = Rows.traceTimesRow.plainKeys) : (b == Try.pinned.checked.prog.plainKeys) = true := by rw [z_plain, h]; kernel_rfl
end Go.Proofs.Ytoieemgdkpnbfaa
