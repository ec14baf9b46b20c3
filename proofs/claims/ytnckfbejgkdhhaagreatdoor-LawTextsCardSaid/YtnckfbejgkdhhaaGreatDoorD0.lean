/- the least time's enclosure is not empty -/
import Derived.Test.YtnckfbejgkdhhaaGreatDoorM2
namespace Go.Proofs.RayM
set_option linter.unusedVariables false
theorem lHi_at (c : Cr) (o : c.ok) : ∃ t, c.lo ≤ t ∧ t ≤ c.hi ∧ c.lHi = c.tHi t := by
  have hk := k_is c o
  have := hk.a; have := hk.b
  unfold Cr.lHi
  split
  · by_cases h : c.tHi c.k ≤ c.tHi (c.k + 1)
    · exact ⟨c.k, by omega, by omega, by omega⟩
    · exact ⟨c.k + 1, by omega, by omega, by omega⟩
  · exact ⟨c.k, by omega, by omega, rfl⟩
theorem lLo_lHi (c : Cr) (o : c.ok) : c.lLo ≤ c.lHi := by
  obtain ⟨t, h1, h2, h3⟩ := lHi_at c o
  rw [h3]; exact least_is c o t h1 h2
end Go.Proofs.RayM
