/- fewer elements reach less far: maths -/
import Derived.Test.YtdicndakelgoeaaV21
namespace Go.Proofs.Ytdicndakelgoeaa
open Go.RowKit Go.Shelf RayM
set_option linter.unusedSimpArgs false
set_option linter.unusedVariables false

def Dl.wo (d : Dl) (dd : Nat → Int) (nd : Nat) : Dl := ⟨d.ck, woC d.t dd nd, d.n⟩
theorem wo_sdL (t dd : Nat → Int) (nd n : Nat) : sdL (woC t dd nd) n = (sdL t n).filter (fun (i : Nat) => !hasB dd nd i) := by
  unfold sdL
  rw [List.filter_filter]
  apply List.filter_congr
  intro i _
  unfold woC
  by_cases h : hasB dd nd i = true
  · simp [h]
  · simp [h]
theorem wo_E (d : Dl) (dd : Nat → Int) (nd : Nat) (h : d.E = 0) : (d.wo dd nd).E = 0 := by
  obtain ⟨h1, h2, h3⟩ := (Dl.E_zero d).1 h
  refine (Dl.E_zero _).2 ⟨h1, h2, fun i hi => ?_⟩
  have := h3 i hi
  show -1 ≤ woC d.t dd nd i ∧ woC d.t dd nd i ≤ 1000000
  unfold woC
  by_cases q : hasB dd nd i = true
  · rw [if_pos q]; omega
  · rw [if_neg q]; exact this
/-- those of the first that are left -/
def wnL (t dd : Nat → Int) (nd n k : Nat) : List Nat := ((sdL t n).take k).filter fun (i : Nat) => !hasB dd nd i
def wnV (t dd : Nat → Int) (nd n k : Nat) : List Value := (wnL t dd nd n k).map fun (i : Nat) => Value.int .i64 (i : Int)
theorem wnV_zero (t dd : Nat → Int) (nd n : Nat) : wnV t dd nd n 0 = [] := by simp [wnV, wnL]
theorem wnV_yes (t dd : Nat → Int) (nd n k i : Nat) (h : (sdL t n)[k]? = some i) (q : hasB dd nd i = false) : wnV t dd nd n (k + 1) = wnV t dd nd n k ++ [.int .i64 (i : Int)] := by
  unfold wnV wnL
  rw [List.take_add_one, h]
  simp [List.filter_append, q]
theorem wnV_no (t dd : Nat → Int) (nd n k i : Nat) (h : (sdL t n)[k]? = some i) (q : hasB dd nd i = true) : wnV t dd nd n (k + 1) = wnV t dd nd n k := by
  unfold wnV wnL
  rw [List.take_add_one, h]
  simp [List.filter_append, q]
theorem wnV_len (t dd : Nat → Int) (nd n k : Nat) : (wnV t dd nd n k).length ≤ k := by
  unfold wnV wnL
  rw [List.length_map]
  have h1 := List.length_filter_le (fun (i : Nat) => !hasB dd nd i) ((sdL t n).take k)
  have h2 := List.length_take_le k (sdL t n)
  omega
theorem wnV_end (t dd : Nat → Int) (nd n : Nat) : wnV t dd nd n (sdL t n).length = mvs (sdF (woC t dd nd) n) (sdL (woC t dd nd) n).length := by
  rw [← sdV_mvs]
  unfold wnV wnL sdV
  rw [List.take_length, wo_sdL]
theorem apM_wo (d : Dl) (dd : Nat → Int) (nd : Nat) : apM (d.wo dd nd) = (sdL (woC d.t dd nd) d.n).length := rfl
theorem apX_mem (a : La) (d : Dl) (j : Nat) (hj : j < apM d) : ∃ i, i ∈ sdL d.t d.n ∧ apX a d j = (a.p i).x := by
  refine ⟨(sdL d.t d.n)[j]'hj, List.getElem_mem _, ?_⟩
  show (a.p _).x = _
  rw [List.getD_eq_getElem?_getD, List.getElem?_eq_getElem hj]; rfl
theorem apX_of (a : La) (d : Dl) (i : Nat) (h : i ∈ sdL d.t d.n) : ∃ j, j < apM d ∧ apX a d j = (a.p i).x := by
  obtain ⟨j, hj, e⟩ := List.getElem_of_mem h
  refine ⟨j, hj, ?_⟩
  show (a.p _).x = _
  rw [List.getD_eq_getElem?_getD, List.getElem?_eq_getElem hj, e]; rfl
theorem ap_ok (a : La) (d : Dl) (h : apE a d = 0) : paE a d = 0 ∧ 0 < apM d := by
  unfold apE at h
  by_cases q : paE a d = 0
  · rw [if_pos q] at h
    refine ⟨q, ?_⟩
    by_cases k : apM d = 0
    · rw [if_pos k] at h; omega
    · omega
  · rw [if_neg q] at h; exact absurd h q
theorem fewer (a : La) (d : Dl) (dd : Nat → Int) (nd : Nat) (h : apE a d = 0) : (d.n ≤ 16 ∧ d.E = 0 ∧ (d.wo dd nd).E = 0) ∧ (apM (d.wo dd nd) = 0 → apE a (d.wo dd nd) = 12) ∧ (apM (d.wo dd nd) ≠ 0 → apE a (d.wo dd nd) = 0 ∧ apLo a d ≤ apLo a (d.wo dd nd) ∧ apHi a (d.wo dd nd) ≤ apHi a d ∧ apLo a (d.wo dd nd) ≤ apHi a (d.wo dd nd) ∧ -100000 ≤ apLo a d ∧ apHi a d ≤ 100000) := by
  obtain ⟨hp, hm⟩ := ap_ok a d h
  obtain ⟨qa, qd, qn⟩ := (paE_zero a d).1 hp
  obtain ⟨_, ⟨n0, n1⟩, _⟩ := (Dl.E_zero d).1 qd
  have hp2 : paE a (d.wo dd nd) = 0 := (paE_zero _ _).2 ⟨qa, wo_E d dd nd qd, qn⟩
  refine ⟨⟨n1, qd, wo_E d dd nd qd⟩, fun q => ?_, fun q => ?_⟩
  · unfold apE; rw [if_pos hp2, if_pos q]
  · have h2 : apE a (d.wo dd nd) = 0 := by unfold apE; rw [if_pos hp2, if_neg q]
    have l1 : apLo a d = mnL (apX a d) (apM d) := by unfold apLo; rw [if_pos h]
    have l2 : apHi a d = mxL (apX a d) (apM d) := by unfold apHi; rw [if_pos h]
    have l3 : apLo a (d.wo dd nd) = mnL (apX a (d.wo dd nd)) (apM (d.wo dd nd)) := by unfold apLo; rw [if_pos h2]
    have l4 : apHi a (d.wo dd nd) = mxL (apX a (d.wo dd nd)) (apM (d.wo dd nd)) := by unfold apHi; rw [if_pos h2]
    have sub : ∀ i, i ∈ sdL (d.wo dd nd).t (d.wo dd nd).n → i ∈ sdL d.t d.n := fun i hi => by
      have : i ∈ sdL (woC d.t dd nd) d.n := hi
      rw [wo_sdL] at this
      exact (List.mem_filter.1 this).1
    have bd : ∀ j, j < apM d → -100000 ≤ apX a d j ∧ apX a d j ≤ 100000 := fun j hj => by
      obtain ⟨i, hi, e⟩ := apX_mem a d j hj
      have hl := ((sdL_mem _ _ _).1 hi).1
      have he := ((La.E_zero a).1 qa).2.1 i (by omega)
      unfold elE at he
      rw [fst_zero] at he
      have := ((placeE_zero _ _).1 (he (placeE (a.p i).x (a.p i).z) (by simp))).1
      rw [e]; exact this
    have inn : ∀ j, j < apM (d.wo dd nd) → mnL (apX a d) (apM d) ≤ apX a (d.wo dd nd) j ∧ apX a (d.wo dd nd) j ≤ mxL (apX a d) (apM d) := fun j hj => by
      obtain ⟨i, hi, e⟩ := apX_mem a _ j hj
      obtain ⟨j2, hj2, e2⟩ := apX_of a d i (sub i hi)
      rw [e, ← e2]
      exact ⟨mnL_le _ _ _ hj2, mxL_le _ _ _ hj2⟩
    obtain ⟨i1, g1, e1⟩ := mnL_mem (apX a (d.wo dd nd)) _ (show 0 < apM (d.wo dd nd) by omega)
    obtain ⟨i2, g2, e2⟩ := mxL_mem (apX a (d.wo dd nd)) _ (show 0 < apM (d.wo dd nd) by omega)
    obtain ⟨i3, g3, e3⟩ := mnL_mem (apX a d) _ hm
    obtain ⟨i4, g4, e4⟩ := mxL_mem (apX a d) _ hm
    have q1 := (inn i1 g1).1
    have q2 := (inn i2 g2).2
    have q3 := mxL_le (apX a (d.wo dd nd)) _ i1 g1
    have q4 := (bd i3 g3).1
    have q5 := (bd i4 g4).2
    rw [l1, l2, l3, l4]
    exact ⟨h2, by omega, by omega, by omega, by omega, by omega⟩
theorem near_both (x y s k : Int) (y0 : 0 ≤ y) (yx : y ≤ x) : ∃ E1 L1 H1 E2 L2 H2 : Int, (∀ w, Calls Try.prog 90 #[.int .i64 (x), .int .i64 s, .int .i64 k] w fun e w' => e = .returned (.tuple #[.agg #[.int .i64 L1, .int .i64 H1], .int .i64 E1]) ∧ Below w.heap.size w w') ∧ (∀ w, Calls Try.prog 90 #[.int .i64 (y), .int .i64 s, .int .i64 k] w fun e w' => e = .returned (.tuple #[.agg #[.int .i64 L2, .int .i64 H2], .int .i64 E2]) ∧ Below w.heap.size w w') ∧ (E1 = 0 → E2 = 0 ∧ L2 ≤ L1 ∧ H2 ≤ H1) :=
  ⟨_, _, _, _, _, _, fun w => nearField_any x s k w, fun w => nearField_any y s k w, fun q => near_mono x y s k q y0 yx⟩
end Go.Proofs.Ytdicndakelgoeaa
