/- what a row's listed variables say of its world -/
import Derived.Test.YtkkaomgdlnejcaaGreatDoorU0
import Derived.Test.YtkkaomgdlnejcaaGreatDoorU2
import Derived.Stop.LaidErr
import Derived.Shelf.Vars
namespace Go.Proofs.YtkkaomgdlnejcaaGreatDoor
open Go.ChangeShapes Go.WideShapes Go.ChangeAt Go.RowKit
set_option linter.unusedVariables false
theorem tab_is : Rows.laid_internal_strconv_uint64pow10 (H := Unit) = Lib.tabData .u64 Lib.pow10Tab := by kernel_rfl
set_option maxRecDepth 100000 in
theorem laid_of {W : World} (h : laidMetH Tryz.prog Rows.lawPlanesRow.laid W) (hs : W.ShapedOpen Tryz.prog) : Laid W := by
  refine ⟨?_, cell_of_shapedOpen_int (t := 3) (k := .i64) (zero := #[.int .i64 0]) hs (of_decide_eq_true (by kernel_rfl)) (by kernel_rfl) rfl (by kernel_rfl) (by kernel_rfl) (by kernel_rfl)⟩
  rw [MakeChecks.laidMetH_plain _ _ _ (by kernel_rfl)] at h
  have h2 : laidMet Tryz.prog (("internal/strconv.uint64pow10", Rows.laid_internal_strconv_uint64pow10) :: _) W := h.tail.tail
  rw [tab_is] at h2
  exact Lib.tabIs_of_head (g := 5) (t := 221) (e := 194) (n := 20) (by kernel_rfl) (by kernel_rfl) (by kernel_rfl) (by kernel_rfl) (by kernel_rfl) (by kernel_rfl) h2
end Go.Proofs.YtkkaomgdlnejcaaGreatDoor
