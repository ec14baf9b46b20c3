/- the examples that every statement begins with -/
import Derived.Test.YtdicndakelgoeaaB4
namespace Go.Proofs.Ytdicndakelgoeaa
open Go.RowKit RayM
set_option linter.unusedSimpArgs false
set_option linter.unusedVariables false
set_option maxRecDepth 100000 in
set_option maxHeartbeats 1000000 in
theorem awake_any (w : World) : Calls Try.prog 22 #[] w fun e w' => e = .returned (.bool true) ∧ Below w.heap.size w w' := by
  go_enter Try.func22, Try.ntmps22
  go_wp2_with fail
  refine (middle_any _).mono ?_
  rintro e w1 ⟨rfl, hb1⟩
  have H1 := Lib.hid hb1; clear hb1
  go_wp2_with fail
  refine (awk1 _).mono ?_
  rintro e w2 ⟨rfl, hb2⟩
  have H2 := Lib.hid (below_then H1.out hb2); clear hb2 H1
  go_wp2_with fail
  refine (middle_any _).mono ?_
  rintro e w3 ⟨rfl, hb3⟩
  have H3 := Lib.hid (below_then H2.out hb3); clear hb3 H2
  go_wp2_with fail
  refine (awk2 _).mono ?_
  rintro e w4 ⟨rfl, hb4⟩
  have H4 := Lib.hid (below_then H3.out hb4); clear hb4 H3
  go_wp2_with fail
  refine (plate_any _).mono ?_
  rintro e w5 ⟨rfl, hb5⟩
  have qw50 : w5.cell? ⟨w4.heap.size, 0, none⟩ = some (.int .i64 3999972) := cell_later hb5 (by simp [go_sem])
  have qw51 : w5.cell? ⟨w4.heap.size, 1, none⟩ = some (.int .i64 4000000) := cell_later hb5 (by simp [go_sem])
  have H5 := Lib.hid (below_then (below_alloc_top H4.out _) hb5); clear hb5 H4
  go_wp2_with fail
  refine (awk3 _).mono ?_
  rintro e w6 ⟨rfl, hb6⟩
  have qw60 : w6.cell? ⟨w4.heap.size, 0, none⟩ = some (.int .i64 3999972) := cell_later hb6 (by simp [go_sem, *])
  have qw61 : w6.cell? ⟨w4.heap.size, 1, none⟩ = some (.int .i64 4000000) := cell_later hb6 (by simp [go_sem, *])
  have H6 := Lib.hid (below_then H5.out hb6); clear hb6 H5
  go_wp2_with fail
  refine (awk4 _).mono ?_
  rintro e w7 ⟨rfl, hb7⟩
  have qw70 : w7.cell? ⟨w4.heap.size, 0, none⟩ = some (.int .i64 3999972) := cell_later hb7 (by simp [go_sem, *])
  have qw71 : w7.cell? ⟨w4.heap.size, 1, none⟩ = some (.int .i64 4000000) := cell_later hb7 (by simp [go_sem, *])
  have H7 := Lib.hid (below_then H6.out hb7); clear hb7 H6
  have zz := World.block_lt_of_cell? _ _ qw70
  dsimp only at zz
  go_wp2
  go_ret
  exact ⟨rfl, (by (repeat (first | (with_reducible exact H7.out) | (with_reducible refine Below.setCell ?_ ?_ _) | (with_reducible refine below_alloc_top ?_ _) | (with_reducible refine Below.drew ?_))); all_goals (first | omega | (simp; done) | (simp; omega)))⟩
end Go.Proofs.Ytdicndakelgoeaa
