/- a slice of whole numbers that came in, opened: within 64 bits -/
import Derived.Test.YtnckfbejgkdhhaaGreatDoorL0
import Derived.Test.YtnckfbejgkdhhaaGreatDoorV0
import Derived.Deep.Slices
import Derived.OpenShut
namespace Go.Proofs.YtnckfbejgkdhhaaGreatDoor
open Go.ChangeShapes Go.WideShapes Go.ChangeAt Go.RowKit RayM
set_option linter.unusedVariables false
set_option linter.unusedSimpArgs false
theorem open_ints64 {H : Type} {enc : TypeId × Value → H} {W : World} {fuel : Nat} {cs : List Value} {x : DataW H × List MemPlace} (h : DataW.trod enc Tryz.prog W 0 (fun _ => true) true fuel 22 cs = some x) :
    ∃ (A : Option Addr) (n c : Nat) (l : Nat → Int), cs = [.slice A n c] ∧ n ≤ maxLen ∧ (A = none → n = 0 ∧ c = 0) ∧ InAt A n l W ∧ (∀ i, i < n → l i ≤ 9223372036854775807) := by
  rcases Go.Deep.open_slice1 Tryz.underlying22 cellsInt h with ⟨e1, _⟩ | ⟨a, len, cap, m, nf, V, D, Pl, e1, _, hle, hmx, hm, _, hx⟩
  · exact ⟨none, 0, 0, fun _ => 0, e1, Nat.zero_le _, fun _ => ⟨rfl, rfl⟩, InAt.zero _ _ _, fun i hi => absurd hi (Nat.not_lt_zero i)⟩
  · have one : ∀ i, i < len → ∃ q : Int, W.cell? (a.add i) = some (.int .i64 q) ∧ q ≤ 9223372036854775807 := by
      intro i hi
      obtain ⟨hc1, hc2⟩ := hx i (by rw [hm]; simp; omega)
      obtain ⟨z0, g0, _, u0⟩ := DataW.trod_int Tryz.underlying3 hc2
      exact ⟨z0, by rw [hc1]; simpa using g0, (bounds_i64 u0).2⟩
    obtain ⟨p, hp⟩ := Go.Deep.choose_lt one
    exact ⟨some a, len, cap, p, e1, by omega, fun q => (by cases q), fun _ => ⟨a, rfl, fun i hi => (hp i hi).1⟩, fun i hi => (hp i hi).2⟩
end Go.Proofs.YtnckfbejgkdhhaaGreatDoor
