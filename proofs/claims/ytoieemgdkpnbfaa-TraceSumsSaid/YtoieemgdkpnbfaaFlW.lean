/- slices of numbers that came in, opened -/
import Derived.Test.YtoieemgdkpnbfaaL0
import Derived.Test.YtoieemgdkpnbfaaFlI
import Derived.Deep.Slices
namespace Go.Proofs.Ytoieemgdkpnbfaa
open Go.ChangeShapes Go.WideShapes Go.ChangeAt Go.RowKit RayM
set_option linter.unusedVariables false
set_option linter.unusedSimpArgs false

theorem open_ints {H : Type} {enc : TypeId × Value → H} {W : World} {fuel : Nat} {cs : List Value} {x : DataW H × List MemPlace} (h : DataW.trod enc Try.prog W 0 (fun _ => true) true fuel 22 cs = some x) :
    ∃ (A : Option Addr) (n c : Nat) (l : Nat → Int), cs = [.slice A n c] ∧ n ≤ maxLen ∧ (A = none → n = 0 ∧ c = 0) ∧ InAt A n l W := by
  rcases Go.Deep.open_slice1 Try.underlying22 cellsInt h with ⟨e1, _⟩ | ⟨a, len, cap, m, nf, V, D, Pl, e1, _, hle, hmx, hm, _, hx⟩
  · exact ⟨none, 0, 0, fun _ => 0, e1, Nat.zero_le _, fun _ => ⟨rfl, rfl⟩, InAt.zero _ _ _⟩
  · have one : ∀ i, i < len → ∃ q : Int, W.cell? (a.add i) = some (.int .i64 q) := by
      intro i hi
      obtain ⟨hc1, hc2⟩ := hx i (by rw [hm]; simp; omega)
      obtain ⟨z0, g0, _, u0⟩ := DataW.trod_int Try.underlying3 hc2
      exact ⟨z0, by rw [hc1]; simpa using g0⟩
    obtain ⟨p, hp⟩ := Go.Deep.choose_lt one
    exact ⟨some a, len, cap, p, e1, by omega, fun q => (by cases q), fun _ => ⟨a, rfl, hp⟩⟩
end Go.Proofs.Ytoieemgdkpnbfaa
