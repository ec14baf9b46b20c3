/- numbers of texts -/
import Derived.Test.YtnckfbejgkdhhaaGreatDoorShelf
import Derived.Test.YtnckfbejgkdhhaaGreatDoorA6
import Derived.Lib.SmallJoins
import Derived.Lib.AppendIntMem
import Derived.Lib.LaidTab
namespace Go.Proofs.YtnckfbejgkdhhaaGreatDoor
open Go.RowKit RayM
set_option linter.unusedSimpArgs false
set_option linter.unusedVariables false
/-- what a world of the listed variables holds: the table of strconv, and a number where bytealg keeps one -/
structure Laid (w : World) : Prop where
  tab : Lib.TabIs Tryz.prog w "internal/strconv.uint64pow10" .u64 Lib.pow10Tab
  max : ∃ m, w.cell? ⟨1, 0, none⟩ = some (.int .i64 m)
theorem var_later {P : Program} {w w' : World} {name : String} {v : Array Value} (hb : Below w.heap.size w w') (h : w.var? P name = some v) : w'.var? P name = some v := by
  unfold World.var? at h ⊢
  cases hg : P.globalNamed name with
  | none => rw [hg] at h; simp at h
  | some g =>
    rw [hg] at h
    simp only [Option.bind_some] at h ⊢
    by_cases hs : g < w.heap.size
    · rw [hb.block g hs]; exact h
    · rw [Array.getElem?_eq_none (by omega)] at h; simp at h
theorem Laid.later {w w' : World} (h : Laid w) (hb : Below w.heap.size w w') : Laid w' := ⟨var_later hb h.tab, by
  obtain ⟨m, hm⟩ := h.max
  exact ⟨m, (hb.cell (World.block_lt_of_cell? _ _ hm)).trans hm⟩⟩
theorem atoi_b (s : ByteArray) (n : Int) (hl : s.size ≤ 18) (h : Lib.atoi s.data.toList = some n) (w : World) :
    Calls Tryz.prog 58 #[.string s] w fun e w' => e = .returned (.tuple #[.int .i64 n, .nilIface]) ∧ Below w.heap.size w w' :=
  (Tryz.strconv_Atoi s n hl h w).mono fun e w' ⟨he, t, hw⟩ => ⟨he, hw ▸ Go.Joins.below_bytesWorld _ w _ t (Nat.le_refl _)⟩
theorem itoa_b (n : Int) (h0 : -9223372036854775808 ≤ n) (h1 : n ≤ 9223372036854775807) (w : World) (hL : Laid w) :
    Calls Tryz.prog 17 #[.int .i64 n] w fun e w' => e = .returned (.string ⟨(Lib.itoa n).toArray⟩) ∧ Below w.heap.size w w' :=
  (Tryz.strconv_Itoa n h0 h1 w hL.tab).mono fun e w' ⟨he, k, os, hw⟩ => ⟨he, hw ▸ Go.Lib.below_grow _ w (Nat.le_refl _) k os⟩
set_option maxRecDepth 100000 in
set_option maxHeartbeats 1000000 in
/-- a number of at most nine digits that is written as strconv writes it -/
theorem number_yes (s : ByteArray) (n : Int) (w : World) (hL : Laid w) (h0 : -9223372036854775808 ≤ n) (h1 : n ≤ 9223372036854775807) (hl : s.size ≤ 18) (h : Lib.atoi s.data.toList = some n) (hi : (⟨(Lib.itoa n).toArray⟩ : ByteArray) = s) (hd : (Lib.trimPrefix s.data.toList [45]).length ≤ 9) :
    Calls Tryz.prog 41 #[.string s, .int .i64 9] w fun e w' => e = .returned (.tuple #[.int .i64 n, .bool true]) ∧ Below w.heap.size w w' := by
  go_enter Tryz.func41, Tryz.ntmps41
  go_wp2_with (first
    | (go_at_call 58; (with_reducible refine (atoi_b s n hl h _).mono ?_); rintro e w1 ⟨rfl, hb1⟩; have hL1 := hL.later hb1; have b1 : Hid (Below w.heap.size w w1) := Lib.hid hb1)
    | (go_at_call 17; (with_reducible refine (itoa_b n h0 h1 _ hL1).mono ?_); rintro e w2 ⟨rfl, hb2⟩; have b2 : Hid (Below w.heap.size w w2) := Lib.hid (below_then b1.out hb2); rw [hi])
    | (go_at_call 59; (with_reducible refine (Tryz.strings_TrimPrefix s _ _).mono ?_); rintro e w' ⟨rfl, rfl⟩))
  all_goals (go_ret2; exact ⟨rfl, b2.out⟩)
theorem ticks_dash (w : World) :
    Calls Tryz.prog 42 #[.string ⟨#[45]⟩] w fun e w' => e = .returned (.tuple #[.int .i64 (-1), .bool true]) ∧ Below w.heap.size w w' := by
  go_enter Tryz.func42, Tryz.ntmps42
  go_wp2
  all_goals (go_ret2; exact ⟨rfl, Below.refl _ _⟩)
set_option maxRecDepth 100000 in
set_option maxHeartbeats 1000000 in
theorem itoa_1000 : Lib.itoa 1000 = [49, 48, 48, 48] := by
  simp [Lib.itoa, Lib.decDigits]
theorem itoa_0 : Lib.itoa 0 = [48] := by
  simp [Lib.itoa, Lib.decDigits]
theorem number_1000 (w : World) (hL : Laid w) :
    Calls Tryz.prog 41 #[.string ⟨#[49, 48, 48, 48]⟩, .int .i64 9] w fun e w' => e = .returned (.tuple #[.int .i64 1000, .bool true]) ∧ Below w.heap.size w w' :=
  number_yes _ 1000 w hL (by omega) (by omega) (by decide) (by decide) (by rw [itoa_1000]) (by decide)
theorem number_0 (w : World) (hL : Laid w) :
    Calls Tryz.prog 41 #[.string ⟨#[48]⟩, .int .i64 9] w fun e w' => e = .returned (.tuple #[.int .i64 0, .bool true]) ∧ Below w.heap.size w w' :=
  number_yes _ 0 w hL (by omega) (by omega) (by decide) (by decide) (by rw [itoa_0]) (by decide)
theorem ticks_zero (w : World) (hL : Laid w) :
    Calls Tryz.prog 42 #[.string ⟨#[48]⟩] w fun e w' => e = .returned (.tuple #[.int .i64 0, .bool true]) ∧ Below w.heap.size w w' := by
  go_enter Tryz.func42, Tryz.ntmps42
  go_wp2_with (go_at_call 41; (with_reducible refine (number_0 _ hL).mono ?_); rintro e w1 ⟨rfl, hb1⟩; have b1 : Hid (Below w.heap.size w w1) := Lib.hid hb1)
  all_goals first | (go_ret2; exact ⟨rfl, b1.out⟩) | trace_state
end Go.Proofs.YtnckfbejgkdhhaaGreatDoor
