/- maths of LawLobes -/
import Derived.Test.YtnhbmmpjifliaaaGreatDoorYa
import Derived.Test.YtnhbmmpjifliaaaGreatDoorV18
namespace Go.Proofs.YtnhbmmpjifliaaaGreatDoor
open Go.RowKit Go.Shelf RayM
set_option linter.unusedSimpArgs false
set_option linter.unusedVariables false
/-- the error of a pitch, of a direction, and of the steepest direction; the steepest direction -/
def ptE (p s k : Int) : Int := fst [unl (inB p 1 1000) 2, wvE s k]
def huB (p q r : Int) : Bool := (inB p (-r) r && inB q (-r) r) && (IntKind.i64.wrap (IntKind.i64.wrap (p * p) + IntKind.i64.wrap (q * q)) == IntKind.i64.wrap (r * r))
def tuE (p q r : Int) : Int := if inB r 1 1000 then (if huB p q r then unl (decide (0 < q)) 15 else 10) else 2
def stE0 (p s k : Int) : Int := if ptE p s k = 0 then (if 100 * s < p * k then 12 else 0) else ptE p s k
def stN (p s k : Int) : Int := if stE0 p s k = 0 then lowN (min (100 * s - p * k) (p * k)) (p * k) else 0
def stD (p s k : Int) : Int := if stE0 p s k = 0 then lowD (min (100 * s - p * k) (p * k)) (p * k) else 0
def gfE (p s k a b r : Int) : Int := if ptE p s k = 0 then tuE a b r else ptE p s k
def gfB (p s k a r : Int) : Bool := decide (p * k * (r + max a (-a)) ≤ 100 * s * r)
theorem ptE_zero (p s k : Int) : ptE p s k = 0 ↔ (1 ≤ p ∧ p ≤ 1000) ∧ wvE s k = 0 := by
  unfold ptE
  rw [fst_zero]
  simp only [List.mem_cons, List.not_mem_nil, or_false, forall_eq_or_imp, forall_eq, unl_inB _ _ _ _ (show (2 : Int) ≠ 0 by decide)]
theorem tuE_zero (p q r : Int) (h : tuE p q r = 0) : (1 ≤ r ∧ r ≤ 1000) ∧ (-r ≤ p ∧ p ≤ r) ∧ (-r ≤ q ∧ q ≤ r) ∧ 0 < q := by
  unfold tuE at h
  by_cases h1 : inB r 1 1000 = true
  · rw [if_pos h1] at h
    by_cases h2 : huB p q r = true
    · rw [if_pos h2] at h
      have h3 : 0 < q := by
        by_cases g : 0 < q
        · exact g
        · simp [unl, g] at h
      unfold huB at h2
      simp only [Bool.and_eq_true, inB, decide_eq_true_eq] at h1 h2
      exact ⟨h1, h2.1.1, h2.1.2, h3⟩
    · rw [if_neg h2] at h; omega
  · rw [if_neg h1] at h; omega
theorem low_mul (a b : Int) (ha : 0 ≤ a) (hb : 1 ≤ b) : ∃ g : Int, 1 ≤ g ∧ a = lowN a b * g ∧ b = lowD a b * g := by
  refine ⟨(Nat.gcd a.natAbs b.natAbs : Int), ?_, ?_, ?_⟩
  · have : 0 < Nat.gcd a.natAbs b.natAbs := Nat.gcd_pos_of_pos_right _ (by omega)
    omega
  · have hd : (Nat.gcd a.natAbs b.natAbs : Int) ∣ a := Int.ofNat_dvd_left.2 (Nat.gcd_dvd_left _ _)
    exact (Int.ediv_mul_cancel hd).symm
  · have hd : (Nat.gcd a.natAbs b.natAbs : Int) ∣ b := Int.ofNat_dvd_left.2 (Nat.gcd_dvd_right _ _)
    exact (Int.ediv_mul_cancel hd).symm
structure Lb (p s k : Int) : Prop where
  p0 : 1 ≤ p
  p1 : p ≤ 1000
  s0 : 500 ≤ s
  s1 : s ≤ 10000
  k0 : 1 ≤ k
  k1 : k ≤ 50000
  m0 : 1 ≤ p * k
  m1 : p * k ≤ 50000000
theorem lb_of (p s k : Int) (h : ptE p s k = 0) : Lb p s k := by
  obtain ⟨⟨p0, p1⟩, hw⟩ := (ptE_zero p s k).1 h
  obtain ⟨⟨s0, s1⟩, ⟨k0, k1⟩⟩ := (wvE_zero s k).1 hw
  have m0 : 1 * 1 ≤ p * k := Int.mul_le_mul p0 k0 (by omega) (by omega)
  have m1 : p * k ≤ 1000 * 50000 := Int.mul_le_mul p1 k1 (by omega) (by omega)
  exact ⟨p0, p1, s0, s1, k0, k1, by omega, by omega⟩
theorem st_parts (p s k : Int) (h : stE0 p s k = 0) : ptE p s k = 0 ∧ p * k ≤ 100 * s ∧ stN p s k = lowN (min (100 * s - p * k) (p * k)) (p * k) ∧ stD p s k = lowD (min (100 * s - p * k) (p * k)) (p * k) := by
  have h' := h
  unfold stE0 at h
  by_cases q : ptE p s k = 0
  · rw [if_pos q] at h
    by_cases q2 : 100 * s < p * k
    · rw [if_pos q2] at h; omega
    · refine ⟨q, by omega, ?_, ?_⟩
      · unfold stN; rw [if_pos h']
      · unfold stD; rw [if_pos h']
  · rw [if_neg q] at h; exact absurd h q
theorem st_pos (p s k : Int) (h : stE0 p s k = 0) : 0 ≤ stN p s k ∧ stN p s k ≤ 50000000 ∧ 1 ≤ stD p s k ∧ stD p s k ≤ 50000000 := by
  obtain ⟨h1, h2, h3, h4⟩ := st_parts p s k h
  have L := lb_of p s k h1
  obtain ⟨p0, p1, s0, s1, k0, k1, m0, m1⟩ := L
  obtain ⟨g, g0, e1, e2⟩ := low_mul (min (100 * s - p * k) (p * k)) (p * k) (by omega) m0
  rw [h3, h4]
  generalize lowN (min (100 * s - p * k) (p * k)) (p * k) = N at *
  generalize lowD (min (100 * s - p * k) (p * k)) (p * k) = D at *
  have hm : 0 ≤ N * g := by omega
  have n0 : 0 ≤ N := by
    by_cases q : 0 ≤ N
    · exact q
    · have : N * g ≤ (-1) * 1 := by
        have := Int.mul_le_mul_of_nonneg_left g0 (show (0 : Int) ≤ -N by omega)
        have e : -N * g = -(N * g) := by rw [Int.neg_mul]
        omega
      omega
  have d0 : 1 ≤ D := by
    by_cases q : 1 ≤ D
    · exact q
    · have := Int.mul_nonneg (show (0 : Int) ≤ -D by omega) (show (0 : Int) ≤ g by omega)
      have e : -D * g = -(D * g) := by rw [Int.neg_mul]
      omega
  have x1 := Int.mul_le_mul_of_nonneg_left g0 n0
  have x2 := Int.mul_le_mul_of_nonneg_left g0 (show (0 : Int) ≤ D by omega)
  omega
/-- too long a pitch has a lobe whatever the direction -/
theorem free_not (p s k a r : Int) (L : Lb p s k) (h : 100 * s < p * k) (r0 : 1 ≤ r) : gfB p s k a r = false := by
  obtain ⟨p0, p1, s0, s1, k0, k1, m0, m1⟩ := L
  unfold gfB
  simp only [decide_eq_false_iff_not, Int.not_le]
  generalize p * k = m at *
  have h1 : (100 * s) * r < m * r := Int.mul_lt_mul_of_pos_right h (by omega)
  have h2 : m * r ≤ m * (r + max a (-a)) := Int.mul_le_mul_of_nonneg_left (by omega) (by omega)
  omega
theorem free_iff (p s k a b r : Int) (h : stE0 p s k = 0) (ht : tuE a b r = 0) : gfB p s k a r = decide (sg (max a (-a) * stD p s k) (stN p s k * r) ≤ 0) := by
  obtain ⟨h1, h2, h3, h4⟩ := st_parts p s k h
  have L := lb_of p s k h1
  obtain ⟨p0, p1, s0, s1, k0, k1, m0, m1⟩ := L
  obtain ⟨⟨r0, r1⟩, ⟨a0, a1⟩, _, _⟩ := tuE_zero a b r ht
  obtain ⟨g, g0, e1, e2⟩ := low_mul (min (100 * s - p * k) (p * k)) (p * k) (by omega) m0
  rw [h3, h4]
  unfold gfB
  generalize lowN (min (100 * s - p * k) (p * k)) (p * k) = N at *
  generalize lowD (min (100 * s - p * k) (p * k)) (p * k) = D at *
  generalize p * k = m at *
  obtain ⟨u, hu⟩ : ∃ u, u = max a (-a) := ⟨_, rfl⟩
  rw [← hu]
  have u0 : 0 ≤ u := by omega
  have u1 : u ≤ r := by omega
  clear hu
  congr 1
  have c1 : m * (r + u) ≤ 100 * s * r ↔ m * u ≤ (100 * s - m) * r := by
    rw [Int.mul_add, Int.sub_mul]; omega
  have c2 : m * u ≤ m * r := Int.mul_le_mul_of_nonneg_left u1 (by omega)
  have c3 : m * (r + u) ≤ 100 * s * r ↔ m * u ≤ (min (100 * s - m) m) * r := by
    rw [c1]
    by_cases q : 100 * s - m ≤ m
    · rw [Int.min_eq_left q]
    · rw [Int.min_eq_right (by omega)]
      constructor
      · intro; exact c2
      · intro
        have := Int.mul_le_mul_of_nonneg_right (show m ≤ 100 * s - m by omega) (show 0 ≤ r by omega)
        omega
  have c4 : m * u = (u * D) * g := by rw [e2]; ac_rfl
  have c5 : (min (100 * s - m) m) * r = (N * r) * g := by rw [e1]; ac_rfl
  have c6 : (u * D) * g ≤ (N * r) * g ↔ u * D ≤ N * r := ⟨fun q => Int.le_of_mul_le_mul_right q (by omega), fun q => Int.mul_le_mul_of_nonneg_right q (by omega)⟩
  have c7 : sg (u * D) (N * r) ≤ 0 ↔ u * D ≤ N * r := by
    have := sg_cases (u * D) (N * r)
    omega
  rw [c7, ← c6, ← c4, ← c5]
  exact propext c3
end Go.Proofs.YtnhbmmpjifliaaaGreatDoor
