/- crossings: the exported functions -/
import Derived.Test.YtnckfbejgkdhhaaGreatDoorA8
namespace Go.Proofs.YtnckfbejgkdhhaaGreatDoor
open Go.RowKit RayM
set_option linter.unusedSimpArgs false
set_option linter.unusedVariables false

theorem inB_iff (n l m : Int) : inB n l m = true ↔ l ≤ n ∧ n ≤ m := by simp [inB]
theorem unl_inB (n l m e : Int) (he : e ≠ 0) : unl (inB n l m) e = 0 ↔ l ≤ n ∧ n ≤ m := by
  rw [← inB_iff]; unfold unl; cases inB n l m <;> simp [he]
theorem unl_cases (b : Bool) (e : Int) : unl b e = 0 ∨ unl b e = e := by cases b <;> simp [unl]
def spE (v : Int) : Int := unl (inB v 500 10000) 2
/-- the error of a crossing -/
def ccE (c : Cr) : Int := fst [unl (inB c.x1 (-100000) 100000) 2, unl (inB c.x2 (-100000) 100000) 2, unl (inB c.h1 1 100000) 2, unl (inB c.h2 1 100000) 2, unl (inB c.v1 500 10000) 2, unl (inB c.v2 500 10000) 2]
theorem fst_zero : ∀ l : List Int, fst l = 0 ↔ ∀ x ∈ l, x = 0
  | [] => by simp [fst]
  | x :: l => by
    have ih := fst_zero l
    unfold fst
    by_cases h : x = 0
    · rw [if_pos h, ih]; simp [h]
    · rw [if_neg h]; simp [h]
theorem fst_two : ∀ l : List Int, (∀ x ∈ l, x = 0 ∨ x = 2) → fst l = 0 ∨ fst l = 2
  | [], _ => by simp [fst]
  | x :: l, h => by
    have ih := fst_two l (fun y hy => h y (by simp [hy]))
    have hx := h x (by simp)
    unfold fst
    split
    · exact ih
    · omega
theorem ccE_ok (c : Cr) (o : c.ok) : ccE c = 0 := by
  unfold ccE
  rw [fst_zero]
  obtain ⟨p1, p2, p3, p4, p5, p6, p7, p8, p9, p10, p11, p12⟩ := o
  intro x hx
  simp only [List.mem_cons, List.not_mem_nil, or_false] at hx
  rcases hx with h | h | h | h | h | h <;> (rw [h, unl_inB _ _ _ _ (by decide)]; exact ⟨by omega, by omega⟩)
theorem ok_of_ccE (c : Cr) (h : ccE c = 0) : c.ok := by
  unfold ccE at h
  rw [fst_zero] at h
  simp only [List.mem_cons, List.not_mem_nil, or_false, forall_eq_or_imp, forall_eq, unl_inB _ _ _ _ (show (2 : Int) ≠ 0 by decide)] at h
  obtain ⟨⟨a, b⟩, ⟨c, d⟩, ⟨e, f⟩, ⟨g, i⟩, ⟨j, k⟩, ⟨l, m⟩⟩ := h
  exact ⟨a, b, c, d, e, f, g, i, j, k, l, m⟩
theorem ccE_bad (c : Cr) (h : ¬ c.ok) : ccE c = 2 := by
  have : ccE c ≠ 0 := fun h' => h (ok_of_ccE c h')
  have k : ccE c = 0 ∨ ccE c = 2 := by
    refine fst_two _ fun x hx => ?_
    simp only [List.mem_cons, List.not_mem_nil, or_false] at hx
    rcases hx with h | h | h | h | h | h <;> (rw [h]; exact unl_cases _ _)
  omega

end Go.Proofs.YtnckfbejgkdhhaaGreatDoor
