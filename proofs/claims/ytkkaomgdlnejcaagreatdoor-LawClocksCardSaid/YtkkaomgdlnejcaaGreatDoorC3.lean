/- places of a crossing: the exported functions -/
import Derived.Test.YtkkaomgdlnejcaaGreatDoorC1
namespace Go.Proofs.YtkkaomgdlnejcaaGreatDoor
open Go.RowKit RayM
set_option linter.unusedSimpArgs false
set_option linter.unusedVariables false
def atE (c : Cr) (t : Int) : Int := fst [ccE c, unl (inB t c.lo c.hi) 2]
structure In (c : Cr) (t : Int) : Prop where
  o : c.ok
  l : c.lo ≤ t
  h : t ≤ c.hi
theorem ccE_two (c : Cr) : ccE c = 0 ∨ ccE c = 2 := by
  by_cases o : c.ok
  · exact .inl (ccE_ok c o)
  · exact .inr (ccE_bad c o)
theorem atE_zero (c : Cr) (t : Int) : atE c t = 0 ↔ In c t := by
  unfold atE
  rw [fst_zero]
  simp only [List.mem_cons, List.not_mem_nil, or_false, forall_eq_or_imp, forall_eq, unl_inB _ _ _ _ (show (2 : Int) ≠ 0 by decide)]
  exact ⟨fun ⟨a, b, d⟩ => ⟨ok_of_ccE c a, b, d⟩, fun ⟨a, b, d⟩ => ⟨ccE_ok c a, b, d⟩⟩
theorem atE_two (c : Cr) (t : Int) : atE c t = 0 ∨ atE c t = 2 := by
  refine fst_two _ fun x hx => ?_
  simp only [List.mem_cons, List.not_mem_nil, or_false] at hx
  rcases hx with h | h
  · rw [h]; exact ccE_two c
  · rw [h]; exact unl_cases _ _
theorem atE_bad (c : Cr) (t : Int) (h : ¬ In c t) : atE c t = 2 := by
  rcases atE_two c t with k | k
  · exact absurd ((atE_zero c t).1 k) h
  · exact k
theorem In.bounds {c : Cr} {t : Int} (p : In c t) : -100000 ≤ t ∧ t ≤ 100000 := by
  have k := k_bounds c p.o
  have := p.l; have := p.h
  omega
/-- what CheckCrossing says of a place -/
def ckV (c : Cr) (t : Int) : Int := if 0 < c.slope t then 18 else if t ≠ c.hi ∧ c.slope (t + 1) ≤ 0 then 18 else 0
end Go.Proofs.YtkkaomgdlnejcaaGreatDoor
