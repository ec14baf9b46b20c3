/- slices that came in, opened -/
import Derived.Test.YtkkaomgdlnejcaaGreatDoorL0
import Derived.Test.YtkkaomgdlnejcaaGreatDoorV0
import Derived.Deep.Slices
namespace Go.Proofs.YtkkaomgdlnejcaaGreatDoor
open Go.ChangeShapes Go.WideShapes Go.ChangeAt Go.RowKit RayM
set_option linter.unusedVariables false
set_option linter.unusedSimpArgs false

instance : Inhabited Sp := ⟨⟨0, 0⟩⟩
theorem cellsSp : Tryz.prog.cellsOf 45 = 2 := by kernel_rfl
/-- a slice of places that came in, opened -/
theorem open_spots {H : Type} {enc : TypeId × Value → H} {W : World} {fuel : Nat} {cs : List Value} {x : DataW H × List MemPlace} (h : DataW.trod enc Tryz.prog W 0 (fun _ => true) true fuel 22 cs = some x) :
    ∃ (A : Option Addr) (n c : Nat) (p : Nat → Sp), cs = [.slice A n c] ∧ n ≤ maxLen ∧ (A = none → n = 0 ∧ c = 0) ∧ SpAt A n p W := by
  rcases Go.Deep.open_slice Tryz.underlying22 h with ⟨e1, _⟩ | ⟨a, len, cap, m, nf, D, Pl, e1, _, hle, hmx, hm, _, hx⟩
  · exact ⟨none, 0, 0, fun _ => ⟨0, 0⟩, e1, Nat.zero_le _, fun _ => ⟨rfl, rfl⟩, SpAt.zero _ _ _⟩
  · have one : ∀ i, i < len → ∃ q : Sp, W.cell? (a.add (i * 2)) = some (.int .i64 q.x) ∧ W.cell? (a.add (i * 2 + 1)) = some (.int .i64 q.z) := by
      intro i hi
      obtain ⟨cs', hc1, hc2⟩ := hx i (by rw [hm]; simp; omega)
      rw [cellsSp] at hc1
      obtain ⟨_, hlen, hcell⟩ := World.cells?_some hc1
      obtain ⟨b0, b1, rfl⟩ : ∃ b0 b1 : Value, cs' = [b0, b1] := by
        match cs', hlen with
        | [b0, b1], _ => exact ⟨b0, b1, rfl⟩
      have q0 := hcell 0 (by omega)
      have q1 := hcell 1 (by omega)
      rw [Go.Deep.add_add] at q0 q1
      simp only [List.getElem?_cons_zero, List.getElem?_cons_succ, Nat.add_zero] at q0 q1
      obtain ⟨n0, y0, t0⟩ := leaf Tryz.underlying45 hc2 0 _ rfl
      obtain ⟨z0, g0, _, u0⟩ := DataW.trod_int Tryz.underlying3 t0
      simp [cellsInt, cellsSp] at g0
      obtain ⟨n1, y1, t1⟩ := leaf Tryz.underlying45 hc2 1 _ rfl
      obtain ⟨z1, g1, _, u1⟩ := DataW.trod_int Tryz.underlying3 t1
      simp [cellsInt, cellsSp] at g1
      exact ⟨⟨z0, z1⟩, by rw [q0, g0], by rw [q1, g1]⟩
    obtain ⟨p, hp⟩ := Go.Deep.choose_lt one
    exact ⟨some a, len, cap, p, e1, by omega, fun q => (by cases q), fun _ => ⟨a, rfl, hp⟩⟩
/-- a slice of whole numbers that came in, opened -/
theorem open_ints {H : Type} {enc : TypeId × Value → H} {W : World} {fuel : Nat} {cs : List Value} {x : DataW H × List MemPlace} (h : DataW.trod enc Tryz.prog W 0 (fun _ => true) true fuel 31 cs = some x) :
    ∃ (A : Option Addr) (n c : Nat) (l : Nat → Int), cs = [.slice A n c] ∧ n ≤ maxLen ∧ (A = none → n = 0 ∧ c = 0) ∧ InAt A n l W := by
  rcases Go.Deep.open_slice1 Tryz.underlying31 cellsInt h with ⟨e1, _⟩ | ⟨a, len, cap, m, nf, V, D, Pl, e1, _, hle, hmx, hm, _, hx⟩
  · exact ⟨none, 0, 0, fun _ => 0, e1, Nat.zero_le _, fun _ => ⟨rfl, rfl⟩, InAt.zero _ _ _⟩
  · have one : ∀ i, i < len → ∃ q : Int, W.cell? (a.add i) = some (.int .i64 q) := by
      intro i hi
      obtain ⟨hc1, hc2⟩ := hx i (by rw [hm]; simp; omega)
      obtain ⟨z0, g0, _, u0⟩ := DataW.trod_int Tryz.underlying3 hc2
      exact ⟨z0, by rw [hc1]; simpa using g0⟩
    obtain ⟨p, hp⟩ := Go.Deep.choose_lt one
    exact ⟨some a, len, cap, p, e1, by omega, fun q => (by cases q), fun _ => ⟨a, rfl, hp⟩⟩
end Go.Proofs.YtkkaomgdlnejcaaGreatDoor
