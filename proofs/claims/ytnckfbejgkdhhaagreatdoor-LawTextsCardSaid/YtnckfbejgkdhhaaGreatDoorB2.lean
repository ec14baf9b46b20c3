/- fractions in lowest terms -/
import Derived.Test.YtnckfbejgkdhhaaGreatDoorA9
namespace Go.Proofs.YtnckfbejgkdhhaaGreatDoor
open Go.RowKit RayM
set_option linter.unusedSimpArgs false
set_option linter.unusedVariables false

theorem gcd_facts (a b : Int) (ha : 0 ≤ a) (hb : 1 ≤ b) (hb1 : b ≤ 9223372036854775807) : 1 ≤ (Nat.gcd a.natAbs b.natAbs : Int) ∧ (Nat.gcd a.natAbs b.natAbs : Int) ≤ 9223372036854775807 := by
  have h1 : 0 < Nat.gcd a.natAbs b.natAbs := Nat.gcd_pos_of_pos_right _ (by omega)
  have h2 : Nat.gcd a.natAbs b.natAbs ≤ b.natAbs := Nat.gcd_le_right _ (by omega)
  omega
/-- numbers of a fraction in lowest terms -/
def lowN (a b : Int) : Int := a / (Nat.gcd a.natAbs b.natAbs : Int)
def lowD (a b : Int) : Int := b / (Nat.gcd a.natAbs b.natAbs : Int)

def csE (a b : Int) : Int := fst [unl (inB a 500 10000) 2, unl (inB b 500 10000) 2, unl (decide (a < b)) 12]
theorem cs_facts (a b : Int) (h : csE a b = 0) : 500 ≤ a ∧ a ≤ 10000 ∧ 500 ≤ b ∧ b ≤ 10000 ∧ a < b := by
  unfold csE at h
  rw [fst_zero] at h
  simp only [List.mem_cons, List.not_mem_nil, or_false, forall_eq_or_imp, forall_eq, unl_inB _ _ _ _ (show (2 : Int) ≠ 0 by decide)] at h
  obtain ⟨⟨p, q⟩, ⟨r, s⟩, t⟩ := h
  refine ⟨p, q, r, s, ?_⟩
  by_cases h2 : a < b
  · exact h2
  · rw [decide_eq_false h2] at t; simp [unl] at t

end Go.Proofs.YtnckfbejgkdhhaaGreatDoor
