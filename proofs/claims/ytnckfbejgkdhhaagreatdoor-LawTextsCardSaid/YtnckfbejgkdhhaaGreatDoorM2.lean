/- the time along a plane is convex: plain mathematics -/
import Derived.Test.YtnckfbejgkdhhaaGreatDoorMath
namespace Go.Proofs.RayM
set_option linter.unusedVariables false

theorem ring_sq (x y : Int) : (x + y) * (x + y) = x * x + 2 * (x * y) + y * y := by
  rw [Int.add_mul, Int.mul_add, Int.mul_add, Int.mul_comm y x]; omega
theorem sq_mul (x y : Int) : (x * y) * (x * y) = (x * x) * (y * y) := by ac_rfl
theorem mul_lt_sq (a b c d : Int) (ha : 0 ≤ a) (hc : 0 ≤ c) (h1 : a < b) (h2 : c < d) : a * c < b * d := by
  have h3 : a * c ≤ a * d := Int.mul_le_mul_of_nonneg_left (by omega) ha
  have h4 : a * d < b * d := Int.mul_lt_mul_of_pos_right h1 (by omega)
  omega
/-- Cauchy's inequality -/
theorem cauchy (x y h : Int) : (x * y + h * h) * (x * y + h * h) ≤ (x * x + h * h) * (y * y + h * h) := by
  have k := sq_nonneg ((x - y) * h)
  have e : (x * x + h * h) * (y * y + h * h) - (x * y + h * h) * (x * y + h * h) = ((x - y) * h) * ((x - y) * h) := by grind
  omega
/-- a leg that grows -/
theorem grows (S b d h M L : Int) (hS : 1 ≤ S) (hb : 0 ≤ b) (hd : 0 ≤ d) (hh : 1 ≤ h) (hM : 0 ≤ M) (hL : 0 ≤ L)
    (h1 : S * ((b + d) * (b + d) + h * h) ≤ M * M) (h2 : L * L ≤ S * (b * b + h * h)) :
    L ≤ M ∧ S * ((b * d) * (b * d)) ≤ (M - L) * (M - L) * (b * b + h * h) := by
  have hhp := sq_pos h hh
  have hbb := sq_nonneg b
  have e1 : b * b ≤ (b + d) * (b + d) := sq_le b (b + d) hb (by omega)
  have hLM : L ≤ M := by
    refine le_of_sq L M hL hM ?_
    have := Int.mul_le_mul_of_nonneg_left (show b * b + h * h ≤ (b + d) * (b + d) + h * h by omega) (show 0 ≤ S by omega)
    omega
  refine ⟨hLM, ?_⟩
  by_cases hc : S * ((b * d) * (b * d)) ≤ (M - L) * (M - L) * (b * b + h * h)
  · exact hc
  · exfalso
    obtain ⟨r, hr⟩ : ∃ r, M = L + r := ⟨M - L, by omega⟩
    subst hr
    have hr0 : 0 ≤ r := by omega
    rw [show L + r - L = r by omega] at hc
    have he : 1 ≤ b * b + h * h := by omega
    have cy := cauchy b (b + d) h
    generalize hE : b * b + h * h = E at *
    have e2 : b * (b + d) + h * h = E + b * d := by rw [← hE, Int.mul_add]; omega
    rw [e2] at cy
    have hq : 0 ≤ b * d := Int.mul_nonneg hb hd
    generalize b * d = q at *
    -- from below
    have lo : S * ((E + q) * (E + q)) ≤ (L + r) * (L + r) * E := by
      have a1 := Int.mul_le_mul_of_nonneg_left cy (show 0 ≤ S by omega)
      have a2 := Int.mul_le_mul_of_nonneg_right h1 (show 0 ≤ E by omega)
      have a3 : S * (E * ((b + d) * (b + d) + h * h)) = S * ((b + d) * (b + d) + h * h) * E := by ac_rfl
      omega
    -- from above
    have p1 : L * L * E ≤ S * E * E := Int.mul_le_mul_of_nonneg_right h2 (by omega)
    have p2 : r * r * E < S * (q * q) := by omega
    have p3 : L * r * E < S * E * q := by
      refine lt_of_sq _ _ (Int.mul_nonneg (Int.mul_nonneg hL hr0) (by omega)) (Int.mul_nonneg (Int.mul_nonneg (by omega) (by omega)) hq) ?_
      have q1 : L * r * E * (L * r * E) = (L * L * E) * (r * r * E) := by ac_rfl
      have q2 : S * E * q * (S * E * q) = (S * E * E) * (S * (q * q)) := by ac_rfl
      rw [q1, q2]
      have q3 : 0 ≤ r * r * E := Int.mul_nonneg (sq_nonneg r) (by omega)
      have q4 : (L * L * E) * (r * r * E) ≤ (S * E * E) * (r * r * E) := Int.mul_le_mul_of_nonneg_right p1 q3
      have q5 : (S * E * E) * (r * r * E) < (S * E * E) * (S * (q * q)) := Int.mul_lt_mul_of_pos_left p2 (Int.mul_pos (Int.mul_pos (by omega) (by omega)) (by omega))
      omega
    have up : (L + r) * (L + r) * E = L * L * E + 2 * (L * r * E) + r * r * E := by
      rw [ring_sq, Int.add_mul, Int.add_mul, Int.mul_assoc 2 (L * r) E]
    have lo2 : S * ((E + q) * (E + q)) = S * E * E + 2 * (S * E * q) + S * (q * q) := by
      rw [ring_sq, Int.mul_add, Int.mul_add, Int.mul_left_comm S 2 (E * q), ← Int.mul_assoc S E E, ← Int.mul_assoc S E q]
    omega
/-- a leg that shrinks -/
theorem shrinks (S a d h M L : Int) (hS : 1 ≤ S) (hd : 0 ≤ d) (ha : d ≤ a) (hh : 1 ≤ h) (hM : 0 ≤ M) (hL : M ≤ L)
    (h1 : S * ((a - d) * (a - d) + h * h) ≤ M * M) (h2 : L * L ≤ S * (a * a + h * h)) :
    (L - M) * (L - M) * (a * a + h * h) ≤ S * ((a * d) * (a * d)) := by
  have hhp := sq_pos h hh
  have haa := sq_nonneg a
  by_cases hc : (L - M) * (L - M) * (a * a + h * h) ≤ S * ((a * d) * (a * d))
  · exact hc
  · exfalso
    obtain ⟨r, hr⟩ : ∃ r, L = M + r := ⟨L - M, by omega⟩
    subst hr
    have hr0 : 0 ≤ r := by omega
    rw [show M + r - M = r by omega] at hc
    have he : 1 ≤ a * a + h * h := by omega
    have cy := cauchy a (a - d) h
    have hpos : 0 ≤ a * (a - d) := Int.mul_nonneg (by omega) (by omega)
    generalize hE : a * a + h * h = E at *
    have e2 : a * (a - d) + h * h = E - a * d := by rw [← hE, Int.mul_sub]; omega
    rw [e2] at cy
    have hp : 1 ≤ E - a * d := by rw [← e2]; omega
    have hq : 0 ≤ a * d := Int.mul_nonneg (by omega) hd
    generalize a * d = q at *
    obtain ⟨p, hpq⟩ : ∃ p, E = p + q := ⟨E - q, by omega⟩
    subst hpq
    rw [show p + q - q = p by omega] at *
    have lo : S * (p * p) ≤ M * M * (p + q) := by
      have a1 := Int.mul_le_mul_of_nonneg_left cy (show 0 ≤ S by omega)
      have a2 := Int.mul_le_mul_of_nonneg_right h1 (show 0 ≤ p + q by omega)
      have a3 : S * ((p + q) * ((a - d) * (a - d) + h * h)) = S * ((a - d) * (a - d) + h * h) * (p + q) := by ac_rfl
      omega
    have p2 : S * (q * q) < r * r * (p + q) := by omega
    have p1 : (M + r) * (M + r) * (p + q) ≤ S * (p + q) * (p + q) := Int.mul_le_mul_of_nonneg_right h2 (by omega)
    have p3 : S * p * q ≤ M * r * (p + q) := by
      refine le_of_sq _ _ (Int.mul_nonneg (Int.mul_nonneg (by omega) (by omega)) hq) (Int.mul_nonneg (Int.mul_nonneg hM hr0) (by omega)) ?_
      have q1 : M * r * (p + q) * (M * r * (p + q)) = (M * M * (p + q)) * (r * r * (p + q)) := by ac_rfl
      have q2 : S * p * q * (S * p * q) = (S * (p * p)) * (S * (q * q)) := by ac_rfl
      rw [q1, q2]
      have s0 : 0 ≤ S * (p * p) := Int.mul_nonneg (by omega) (sq_nonneg p)
      have s1 : 0 ≤ S * (q * q) := Int.mul_nonneg (by omega) (sq_nonneg q)
      exact mul_le _ _ _ _ s0 s1 lo (by omega)
    have up : (M + r) * (M + r) * (p + q) = M * M * (p + q) + 2 * (M * r * (p + q)) + r * r * (p + q) := by
      rw [ring_sq, Int.add_mul, Int.add_mul, Int.mul_assoc 2 (M * r) (p + q)]
    have lo2 : S * (p + q) * (p + q) = S * (p * p) + 2 * (S * p * q) + S * (q * q) := by
      rw [Int.mul_assoc, ring_sq, Int.mul_add, Int.mul_add, Int.mul_left_comm S 2 (p * q), ← Int.mul_assoc S p q]
    omega
/-- one leg shrinks, the other one grows, and the slope says that the first one counts no more -/
theorem slides (S a b d h k V W L1 M1 L2 M2 : Int) (hS : 1 ≤ S) (hd : 0 ≤ d) (ha : d ≤ a) (hb : 0 ≤ b) (hh : 1 ≤ h) (hk : 1 ≤ k) (hV : 1 ≤ V) (hW : 1 ≤ W)
    (l1 : 0 ≤ L1) (m1 : 0 ≤ M1) (l2 : 0 ≤ L2) (m2 : 0 ≤ M2)
    (A1 : S * ((a - d) * (a - d) + h * h) ≤ (M1 * V) * (M1 * V)) (A2 : (L1 * V) * (L1 * V) ≤ S * (a * a + h * h))
    (B1 : S * ((b + d) * (b + d) + k * k) ≤ (M2 * W) * (M2 * W)) (B2 : (L2 * W) * (L2 * W) ≤ S * (b * b + k * k))
    (sl : a * a * (W * W) * (b * b + k * k) ≤ b * b * (V * V) * (a * a + h * h)) : L1 + L2 ≤ M1 + M2 := by
  obtain ⟨g1, g2⟩ := grows S b d k (M2 * W) (L2 * W) hS hb hd hk (Int.mul_nonneg m2 (by omega)) (Int.mul_nonneg l2 (by omega)) B1 B2
  have hLM2 : L2 ≤ M2 := Int.le_of_mul_le_mul_right g1 (by omega)
  by_cases hu : L1 ≤ M1
  · omega
  · have s := shrinks S a d h (M1 * V) (L1 * V) hS hd ha hh (Int.mul_nonneg m1 (by omega)) (Int.mul_le_mul_of_nonneg_right (by omega) (by omega)) A1 A2
    rw [← Int.sub_mul] at s g2
    obtain ⟨u, hu2⟩ : ∃ u, u = L1 - M1 := ⟨_, rfl⟩
    obtain ⟨v, hv2⟩ : ∃ v, v = M2 - L2 := ⟨_, rfl⟩
    rw [← hu2] at s
    rw [← hv2] at g2
    have hu0 : 0 ≤ u := by omega
    have hv0 : 0 ≤ v := by omega
    have hD1 : 1 ≤ a * a + h * h := by have := sq_nonneg a; have := sq_pos h hh; omega
    have hD2 : 1 ≤ b * b + k * k := by have := sq_nonneg b; have := sq_pos k hk; omega
    generalize a * a + h * h = D1 at *
    generalize b * b + k * k = D2 at *
    have hV2 := sq_pos V hV
    have hW2 := sq_pos W hW
    suffices u ≤ v by omega
    refine le_of_sq u v hu0 hv0 ?_
    -- (u V)² D1 ≤ S a² d², and so on
    have c1 : (u * V) * (u * V) * D1 * (W * W * D2) ≤ S * ((a * d) * (a * d)) * (W * W * D2) := Int.mul_le_mul_of_nonneg_right s (Int.mul_nonneg (by omega) (by omega))
    have c2 : S * ((a * d) * (a * d)) * (W * W * D2) ≤ S * ((b * d) * (b * d)) * (V * V * D1) := by
      have e1 : S * ((a * d) * (a * d)) * (W * W * D2) = (S * (d * d)) * (a * a * (W * W) * D2) := by ac_rfl
      have e2 : S * ((b * d) * (b * d)) * (V * V * D1) = (S * (d * d)) * (b * b * (V * V) * D1) := by ac_rfl
      rw [e1, e2]
      exact Int.mul_le_mul_of_nonneg_left sl (Int.mul_nonneg (by omega) (sq_nonneg d))
    have c3 : S * ((b * d) * (b * d)) * (V * V * D1) ≤ (v * W) * (v * W) * D2 * (V * V * D1) := Int.mul_le_mul_of_nonneg_right g2 (Int.mul_nonneg (by omega) (by omega))
    have e3 : (u * V) * (u * V) * D1 * (W * W * D2) = (u * u) * (V * V * D1 * (W * W * D2)) := by ac_rfl
    have e4 : (v * W) * (v * W) * D2 * (V * V * D1) = (v * v) * (V * V * D1 * (W * W * D2)) := by ac_rfl
    have pos : 0 < V * V * D1 * (W * W * D2) := Int.mul_pos (Int.mul_pos (by omega) (by omega)) (Int.mul_pos (by omega) (by omega))
    exact Int.le_of_mul_le_mul_right (by omega : (u * u) * (V * V * D1 * (W * W * D2)) ≤ (v * v) * (V * V * D1 * (W * W * D2))) pos
/-- what the ends of a leg's time are -/
theorem leg_sq (x z v : Int) (a : -400000 ≤ x) (b : x ≤ 400000) (c : -400000 ≤ z) (d : z ≤ 400000) (hv : 500 ≤ v) :
    (legLo x z v * v) * (legLo x z v * v) ≤ 100000000000000 * (x * x + z * z) ∧ 100000000000000 * (x * x + z * z) ≤ (legHi x z v * v) * (legHi x z v * v) := by
  have s := sqL_bounds x z a b c d
  have r := rt_spec _ s.1 (by omega)
  have u := rtU_spec _ s.1 (by omega)
  have e : 100000000000000 * (x * x + z * z) = 100000000 * sqL x z := by unfold sqL; omega
  rw [e]
  have lb := leg_bounds x z v a b c d hv
  unfold legLo legHi at *
  generalize sqL x z = n at *
  have m1 := div_spec (rt n * 10000) v (by omega)
  have m2 := cdiv_spec (rtU n * 10000) v (by omega)
  constructor
  · have k := sq_le _ _ (Int.mul_nonneg lb.1 (by omega)) m1.1
    have k2 : rt n * 10000 * (rt n * 10000) = 100000000 * (rt n * rt n) := by
      rw [sq_mul]; omega
    omega
  · have k := sq_le (rtU n * 10000) _ (by omega) m2.1
    have k2 : rtU n * 10000 * (rtU n * 10000) = 100000000 * (rtU n * rtU n) := by
      rw [sq_mul]; omega
    omega
/-- to the left of a place at which the slope is not above 0 the time is not less -/
theorem left_of (c : Cr) (o : c.ok) (s t : Int) (h1 : c.lo ≤ t) (h2 : t ≤ s) (h3 : s ≤ c.hi) (sl : c.slope s ≤ 0) : c.tLo s ≤ c.tHi t := by
  obtain ⟨p1, p2, p3, p4, p5, p6, p7, p8, p9, p10, p11, p12⟩ := o
  unfold Cr.lo at h1
  unfold Cr.hi at h3
  unfold Cr.slope at sl
  unfold Cr.tLo Cr.tHi
  obtain ⟨A2, _⟩ := leg_sq (s - c.x1) c.h1 c.v1 (by omega) (by omega) (by omega) (by omega) p9
  obtain ⟨_, A1⟩ := leg_sq (t - c.x1) c.h1 c.v1 (by omega) (by omega) (by omega) (by omega) p9
  obtain ⟨B2, _⟩ := leg_sq (c.x2 - s) c.h2 c.v2 (by omega) (by omega) (by omega) (by omega) p11
  obtain ⟨_, B1⟩ := leg_sq (c.x2 - t) c.h2 c.v2 (by omega) (by omega) (by omega) (by omega) p11
  have b1 := leg_bounds (s - c.x1) c.h1 c.v1 (by omega) (by omega) (by omega) (by omega) p9
  have b2 := leg_bounds (t - c.x1) c.h1 c.v1 (by omega) (by omega) (by omega) (by omega) p9
  have b3 := leg_bounds (c.x2 - s) c.h2 c.v2 (by omega) (by omega) (by omega) (by omega) p11
  have b4 := leg_bounds (c.x2 - t) c.h2 c.v2 (by omega) (by omega) (by omega) (by omega) p11
  by_cases hx : c.x2 < c.x1
  · rw [if_pos hx] at sl
    have k := sg_cases (c.S s) (c.F s)
    have hle : c.S s ≤ c.F s := by omega
    unfold Cr.F Cr.S at hle
    rw [sq_sub s c.x1] at hle A2
    rw [sq_sub t c.x1] at A1
    rw [sq_sub c.x2 s] at hle B2
    rw [sq_sub c.x2 t] at B1
    have key := slides 100000000000000 (s - c.x2) (c.x1 - s) (s - t) c.h2 c.h1 c.v2 c.v1 (legLo (c.x2 - s) c.h2 c.v2) (legHi (c.x2 - t) c.h2 c.v2) (legLo (s - c.x1) c.h1 c.v1) (legHi (t - c.x1) c.h1 c.v1)
      (by omega) (by omega) (by omega) (by omega) p7 p5 (by omega) (by omega) b3.1 b4.2.2.1 b1.1 b2.2.2.1
      (by rw [show s - c.x2 - (s - t) = t - c.x2 by omega]; exact B1) B2 (by rw [show c.x1 - s + (s - t) = c.x1 - t by omega]; exact A1) A2
      (by simp only [← Int.mul_assoc]; exact hle)
    omega
  · rw [if_neg hx] at sl
    have k := sg_cases (c.F s) (c.S s)
    have hle : c.F s ≤ c.S s := by omega
    unfold Cr.F Cr.S at hle
    have key := slides 100000000000000 (s - c.x1) (c.x2 - s) (s - t) c.h1 c.h2 c.v1 c.v2 (legLo (s - c.x1) c.h1 c.v1) (legHi (t - c.x1) c.h1 c.v1) (legLo (c.x2 - s) c.h2 c.v2) (legHi (c.x2 - t) c.h2 c.v2)
      (by omega) (by omega) (by omega) (by omega) p5 p7 (by omega) (by omega) b1.1 b2.2.2.1 b3.1 b4.2.2.1
      (by rw [show s - c.x1 - (s - t) = t - c.x1 by omega]; exact A1) A2 (by rw [show c.x2 - s + (s - t) = c.x2 - t by omega]; exact B1) B2
      (by simp only [← Int.mul_assoc]; exact hle)
    omega
/-- to the right of a place at which the slope is not below 0 the time is not less -/
theorem right_of (c : Cr) (o : c.ok) (s t : Int) (h1 : c.lo ≤ s) (h2 : s ≤ t) (h3 : t ≤ c.hi) (sl : 0 ≤ c.slope s) : c.tLo s ≤ c.tHi t := by
  obtain ⟨p1, p2, p3, p4, p5, p6, p7, p8, p9, p10, p11, p12⟩ := o
  unfold Cr.lo at h1
  unfold Cr.hi at h3
  unfold Cr.slope at sl
  unfold Cr.tLo Cr.tHi
  obtain ⟨A2, _⟩ := leg_sq (s - c.x1) c.h1 c.v1 (by omega) (by omega) (by omega) (by omega) p9
  obtain ⟨_, A1⟩ := leg_sq (t - c.x1) c.h1 c.v1 (by omega) (by omega) (by omega) (by omega) p9
  obtain ⟨B2, _⟩ := leg_sq (c.x2 - s) c.h2 c.v2 (by omega) (by omega) (by omega) (by omega) p11
  obtain ⟨_, B1⟩ := leg_sq (c.x2 - t) c.h2 c.v2 (by omega) (by omega) (by omega) (by omega) p11
  have b1 := leg_bounds (s - c.x1) c.h1 c.v1 (by omega) (by omega) (by omega) (by omega) p9
  have b2 := leg_bounds (t - c.x1) c.h1 c.v1 (by omega) (by omega) (by omega) (by omega) p9
  have b3 := leg_bounds (c.x2 - s) c.h2 c.v2 (by omega) (by omega) (by omega) (by omega) p11
  have b4 := leg_bounds (c.x2 - t) c.h2 c.v2 (by omega) (by omega) (by omega) (by omega) p11
  by_cases hx : c.x2 < c.x1
  · rw [if_pos hx] at sl
    have k := sg_cases (c.S s) (c.F s)
    have hle : c.F s ≤ c.S s := by omega
    unfold Cr.F Cr.S at hle
    rw [sq_sub s c.x1] at hle A2
    rw [sq_sub t c.x1] at A1
    rw [sq_sub c.x2 s] at hle B2
    rw [sq_sub c.x2 t] at B1
    have key := slides 100000000000000 (c.x1 - s) (s - c.x2) (t - s) c.h1 c.h2 c.v1 c.v2 (legLo (s - c.x1) c.h1 c.v1) (legHi (t - c.x1) c.h1 c.v1) (legLo (c.x2 - s) c.h2 c.v2) (legHi (c.x2 - t) c.h2 c.v2)
      (by omega) (by omega) (by omega) (by omega) p5 p7 (by omega) (by omega) b1.1 b2.2.2.1 b3.1 b4.2.2.1
      (by rw [show c.x1 - s - (t - s) = c.x1 - t by omega]; exact A1) A2 (by rw [show s - c.x2 + (t - s) = t - c.x2 by omega]; exact B1) B2
      (by simp only [← Int.mul_assoc]; exact hle)
    omega
  · rw [if_neg hx] at sl
    have k := sg_cases (c.F s) (c.S s)
    have hle : c.S s ≤ c.F s := by omega
    unfold Cr.F Cr.S at hle
    have key := slides 100000000000000 (c.x2 - s) (s - c.x1) (t - s) c.h2 c.h1 c.v2 c.v1 (legLo (c.x2 - s) c.h2 c.v2) (legHi (c.x2 - t) c.h2 c.v2) (legLo (s - c.x1) c.h1 c.v1) (legHi (t - c.x1) c.h1 c.v1)
      (by omega) (by omega) (by omega) (by omega) p7 p5 (by omega) (by omega) b3.1 b4.2.2.1 b1.1 b2.2.2.1
      (by rw [show c.x2 - s - (t - s) = c.x2 - t by omega]; exact B1) B2 (by rw [show s - c.x1 + (t - s) = t - c.x1 by omega]; exact A1) A2
      (by simp only [← Int.mul_assoc]; exact hle)
    omega
/-- THE LEAST TIME IS THE LEAST -/
theorem least_is (c : Cr) (o : c.ok) (t : Int) (h1 : c.lo ≤ t) (h2 : t ≤ c.hi) : c.lLo ≤ c.tHi t := by
  have hk := k_is c o
  have bb : 0 ≤ c.bd := by
    have a := cdiv_le_self 10000000 (c.v1 * c.h1) (by omega) (by have := Int.mul_pos (show 0 < c.v1 by have := o.e1; omega) (show 0 < c.h1 by have := o.c1; omega); omega)
    have b := cdiv_le_self 10000000 (c.v2 * c.h2) (by omega) (by have := Int.mul_pos (show 0 < c.v2 by have := o.f1; omega) (show 0 < c.h2 by have := o.d1; omega); omega)
    unfold Cr.bd; omega
  have tb := t_bounds c o t (by have := o.a1; have := o.b1; unfold Cr.lo at h1; omega) (by have := o.a2; have := o.b2; unfold Cr.hi at h2; omega)
  unfold Cr.lLo
  by_cases hlt : t ≤ c.k
  · have := left_of c o c.k t h1 hlt hk.b (hk.p _ hk.a (Int.le_refl _))
    split <;> omega
  · have h3 : c.k < c.hi := by omega
    have := right_of c o (c.k + 1) t (by have := hk.a; omega) (by omega) h2 (by have := hk.q (c.k + 1) (by omega) (by omega); omega)
    rw [if_pos h3]; omega
end Go.Proofs.RayM
