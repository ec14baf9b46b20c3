/- ways with one speed, unfolded ways, and ways by any places: plain mathematics -/
import Derived.Test.YtdicndakelgoeaaM2
namespace Go.Proofs.RayM
set_option linter.unusedVariables false

/-- both legs next to a straight way are hardly longer than it -/
theorem bend (p q h k a b c : Int) (hpq : 0 ≤ p * q) (hh : 1 ≤ h) (hk : 1 ≤ k) (ha : 0 ≤ a) (hb : 0 ≤ b) (hc : 0 ≤ c)
    (A : a * a ≤ 1000000 * (p * p + h * h)) (B : b * b ≤ 1000000 * (q * q + k * k)) (C : 1000000 * ((p + q) * (p + q) + (h + k) * (h + k)) ≤ c * c)
    (d0 : -(h + k) ≤ q * h - p * k) (d1 : q * h - p * k ≤ h + k) : (a + b - c) * (h * k) ≤ 1000 * (h + k) := by
  have hhk : 1 ≤ h * k := by have := mul_le 1 1 h k (by omega) (by omega) hh hk; omega
  by_cases hle : a + b ≤ c
  · have : (a + b - c) * (h * k) ≤ 0 := Int.mul_nonpos_of_nonpos_of_nonneg (by omega) (by omega)
    omega
  · -- the square of the difference of both shares
    have hd : (q * h - p * k) * (q * h - p * k) ≤ (h + k) * (h + k) := by
      rcases Int.le_total 0 (q * h - p * k) with x | x
      · exact sq_le _ _ x d1
      · have := sq_le (-(q * h - p * k)) (h + k) (by omega) (by omega)
        rwa [Int.neg_mul_neg] at this
    have e1 : (p * p + h * h) * (q * q + k * k) = (p * q + h * k) * (p * q + h * k) + (q * h - p * k) * (q * h - p * k) := by grind
    have hA : 0 ≤ p * p + h * h := by have := sq_nonneg p; have := sq_nonneg h; omega
    have hB : 0 ≤ q * q + k * k := by have := sq_nonneg q; have := sq_nonneg k; omega
    have ab : (a * b) * (a * b) ≤ 1000000000000 * ((p * q + h * k) * (p * q + h * k) + (q * h - p * k) * (q * h - p * k)) := by
      have := mul_le (a * a) (b * b) _ _ (sq_nonneg a) (sq_nonneg b) A B
      have e : 1000000 * (p * p + h * h) * (1000000 * (q * q + k * k)) = 1000000000000 * ((p * p + h * h) * (q * q + k * k)) := by grind
      rw [e, e1] at this
      have e2 : (a * b) * (a * b) = a * a * (b * b) := by ac_rfl
      rw [e2]; exact this
    have hu : (a + b - c) * (a + b + c) ≤ 2 * (a * b - 1000000 * (p * q + h * k)) := by
      have e : (a + b - c) * (a + b + c) = a * a + 2 * (a * b) + b * b - c * c := by grind
      have e3 : (p + q) * (p + q) + (h + k) * (h + k) = (p * p + h * h) + (q * q + k * k) + 2 * (p * q + h * k) := by grind
      rw [e3] at C
      rw [e]; omega
    have hcH : 1000 * (h + k) ≤ c := by
      refine le_of_sq _ _ (by omega) hc ?_
      have e : 1000 * (h + k) * (1000 * (h + k)) = 1000000 * ((h + k) * (h + k)) := by grind
      have := sq_nonneg (p + q)
      rw [e]; omega
    have hE : h * k ≤ p * q + h * k := by omega
    generalize p * q + h * k = E at *
    generalize (q * h - p * k) * (q * h - p * k) = dd at *
    generalize p * p + h * h = PP at *
    generalize q * q + k * k = QQ at *
    have hg : 0 < a + b - c := by omega
    have hS : 2000 * (h + k) ≤ a + b + c := by omega
    have hgS : (a + b - c) * (2000 * (h + k)) ≤ (a + b - c) * (a + b + c) := Int.mul_le_mul_of_nonneg_left hS (by omega)
    generalize a + b - c = g at *
    generalize a * b = m at *
    have hgp : 0 < g * (2000 * (h + k)) := Int.mul_pos hg (by omega)
    have hup : 0 < m - 1000000 * E := by omega
    have e4 : (m - 1000000 * E) * (m + 1000000 * E) = m * m - 1000000000000 * (E * E) := by grind
    have h5 : (m - 1000000 * E) * (2000000 * (h * k)) ≤ (m - 1000000 * E) * (m + 1000000 * E) := Int.mul_le_mul_of_nonneg_left (by omega) (by omega)
    generalize m - 1000000 * E = u at *
    have h6 : u * (h * k) * 2000000 ≤ 1000000000000 * ((h + k) * (h + k)) := by
      have : u * (h * k) * 2000000 = u * (2000000 * (h * k)) := by grind
      rw [this]; omega
    have h7 : g * (2000 * (h + k)) * (h * k) ≤ 2 * u * (h * k) := Int.mul_le_mul_of_nonneg_right (by omega) (by omega)
    have h8 : (g * (h * k)) * (h + k) * 2000 ≤ 1000 * (h + k) * (h + k) * 2000 := by
      have f1 : (g * (h * k)) * (h + k) * 2000 = g * (2000 * (h + k)) * (h * k) := by grind
      have f2 : 1000 * (h + k) * (h + k) * 2000 = 2000000 * ((h + k) * (h + k)) := by grind
      have f3 : 2 * u * (h * k) = 2 * (u * (h * k)) := by grind
      have := sq_nonneg (h + k)
      rw [f1, f2]; rw [f3] at h7; omega
    exact Int.le_of_mul_le_mul_right (Int.le_of_mul_le_mul_right h8 (by omega)) (by omega)

/-- a way by a bend is not shorter -/
theorem mink (p q h k a b : Int) (ha : 0 ≤ a) (hb : 0 ≤ b) (A : 1000000 * (p * p + h * h) ≤ a * a) (B : 1000000 * (q * q + k * k) ≤ b * b) :
    1000000 * ((p + q) * (p + q) + (h + k) * (h + k)) ≤ (a + b) * (a + b) := by
  have e1 : (p * p + h * h) * (q * q + k * k) = (p * q + h * k) * (p * q + h * k) + (q * h - p * k) * (q * h - p * k) := by grind
  have hA : 0 ≤ p * p + h * h := by have := sq_nonneg p; have := sq_nonneg h; omega
  have hB : 0 ≤ q * q + k * k := by have := sq_nonneg q; have := sq_nonneg k; omega
  have hm : 1000000 * (p * q + h * k) ≤ a * b := by
    by_cases hE : p * q + h * k ≤ 0
    · have := Int.mul_nonneg ha hb; omega
    · refine le_of_sq _ _ (by omega) (Int.mul_nonneg ha hb) ?_
      have := mul_le _ _ _ _ (by omega : 0 ≤ 1000000 * (p * p + h * h)) (by omega : 0 ≤ 1000000 * (q * q + k * k)) A B
      have e : 1000000 * (p * p + h * h) * (1000000 * (q * q + k * k)) = 1000000000000 * ((p * p + h * h) * (q * q + k * k)) := by grind
      have e2 : a * b * (a * b) = a * a * (b * b) := by ac_rfl
      have e3 : 1000000 * (p * q + h * k) * (1000000 * (p * q + h * k)) = 1000000000000 * ((p * q + h * k) * (p * q + h * k)) := by grind
      have := sq_nonneg (q * h - p * k)
      rw [e2, e3]; omega
  have e4 : (p + q) * (p + q) + (h + k) * (h + k) = (p * p + h * h) + (q * q + k * k) + 2 * (p * q + h * k) := by grind
  have e5 := ring_sq a b
  rw [e4, e5]; omega

theorem rt_le_of (n a : Int) (h0 : 0 ≤ n) (h : n < 4611686018427387904) (ha : 0 ≤ a) (hn : n ≤ a * a) : rt n ≤ a ∧ rtU n ≤ a := by
  have s := rt_spec n h0 h
  have l1 := le_of_sq (rt n) a s.1 ha (by omega)
  refine ⟨l1, ?_⟩
  unfold rtU
  split
  · have : rt n < a := lt_of_sq _ _ s.1 ha (by omega)
    omega
  · exact l1
theorem rtU_mono (m n : Int) (h0 : 0 ≤ m) (h : n < 4611686018427387904) (hmn : m ≤ n) : rtU m ≤ rtU n := by
  have u := rtU_spec n (by omega) h
  exact (rt_le_of m (rtU n) h0 (by omega) u.1 (by omega)).2
theorem cdiv_le_of (a b q : Int) (hb : 0 < b) (h : a ≤ q * b) : cdiv a b ≤ q := by
  have s := cdiv_spec a b hb
  by_cases hh : cdiv a b ≤ q
  · exact hh
  · have := Int.mul_le_mul_of_nonneg_right (show q + 1 ≤ cdiv a b by omega) (show 0 ≤ b by omega)
    rw [Int.add_mul] at this; omega
theorem cdiv_mono (a a' b : Int) (hb : 0 < b) (h : a ≤ a') : cdiv a b ≤ cdiv a' b :=
  cdiv_le_of _ _ _ hb (by have := cdiv_spec a' b hb; omega)
/-- a leg is not longer than what goes round -/
theorem triangle (x y h k v : Int) (x0 : -200000 ≤ x) (x1 : x ≤ 200000) (y0 : -200000 ≤ y) (y1 : y ≤ 200000) (h0 : -200000 ≤ h) (h1 : h ≤ 200000) (k0 : -200000 ≤ k) (k1 : k ≤ 200000) (hv : 500 ≤ v) :
    legHi (x + y) (h + k) v ≤ legHi x h v + legHi y k v := by
  have s1 := sqL_bounds x h (by omega) (by omega) (by omega) (by omega)
  have s2 := sqL_bounds y k (by omega) (by omega) (by omega) (by omega)
  have s3 := sqL_bounds (x + y) (h + k) (by omega) (by omega) (by omega) (by omega)
  have u1 := rtU_spec _ s1.1 (by omega)
  have u2 := rtU_spec _ s2.1 (by omega)
  have m := mink x y h k _ _ u1.1 u2.1 u1.2.1 u2.2.1
  have r := (rt_le_of (sqL (x + y) (h + k)) _ s3.1 (by omega) (by omega) m).2
  unfold legHi
  refine cdiv_le_of _ _ _ (by omega) ?_
  have c1 := cdiv_spec (rtU (sqL x h) * 10000) v (by omega)
  have c2 := cdiv_spec (rtU (sqL y k) * 10000) v (by omega)
  rw [Int.add_mul]; omega
theorem legHi_mono (x z x' z' v : Int) (s0 : 0 ≤ sqL x z) (h : sqL x z ≤ sqL x' z') (hs : sqL x' z' < 4611686018427387904) (hv : 500 ≤ v) : legHi x z v ≤ legHi x' z' v := by
  have := rtU_mono _ _ s0 hs h
  exact cdiv_mono _ _ _ (by omega) (by omega)
theorem legHi_zneg (x z v : Int) : legHi x (-z) v = legHi x z v := by unfold legHi sqL; rw [Int.neg_mul_neg]
theorem legHi_xneg (x z v : Int) : legHi (-x) z v = legHi x z v := by unfold legHi sqL; rw [Int.neg_mul_neg]
theorem legLo_zneg (x z v : Int) : legLo x (-z) v = legLo x z v := by unfold legLo sqL; rw [Int.neg_mul_neg]
/-- the slope with one speed -/
theorem slope_one (c : Cr) (o : c.ok) (hv : c.v1 = c.v2) (t : Int) (h1 : c.lo ≤ t) (h2 : t ≤ c.hi) : c.slope t ≤ 0 ↔ (t - c.x1) * c.h2 ≤ (c.x2 - t) * c.h1 := by
  obtain ⟨p1, p2, p3, p4, p5, p6, p7, p8, p9, p10, p11, p12⟩ := o
  unfold Cr.lo at h1
  unfold Cr.hi at h2
  have hF : c.F t = (c.v2 * c.v2) * (((t - c.x1) * (c.x2 - t)) * ((t - c.x1) * (c.x2 - t)) + ((t - c.x1) * c.h2) * ((t - c.x1) * c.h2)) := by unfold Cr.F; grind
  have hS : c.S t = (c.v2 * c.v2) * (((t - c.x1) * (c.x2 - t)) * ((t - c.x1) * (c.x2 - t)) + ((c.x2 - t) * c.h1) * ((c.x2 - t) * c.h1)) := by unfold Cr.S; rw [hv]; grind
  have hvp := sq_pos c.v2 (by omega)
  have key : c.F t ≤ c.S t ↔ ((t - c.x1) * c.h2) * ((t - c.x1) * c.h2) ≤ ((c.x2 - t) * c.h1) * ((c.x2 - t) * c.h1) := by
    rw [hF, hS]
    constructor
    · intro h
      have := Int.le_of_mul_le_mul_left h (by omega)
      omega
    · intro h
      exact Int.mul_le_mul_of_nonneg_left (by omega) (by omega)
  have key2 : c.S t ≤ c.F t ↔ ((c.x2 - t) * c.h1) * ((c.x2 - t) * c.h1) ≤ ((t - c.x1) * c.h2) * ((t - c.x1) * c.h2) := by
    rw [hF, hS]
    constructor
    · intro h
      have := Int.le_of_mul_le_mul_left h (by omega)
      omega
    · intro h
      exact Int.mul_le_mul_of_nonneg_left (by omega) (by omega)
  unfold Cr.slope
  by_cases hx : c.x2 < c.x1
  · rw [if_pos hx]
    have k := sg_cases (c.S t) (c.F t)
    have n1 : 0 ≤ (-(t - c.x1)) * c.h2 := Int.mul_nonneg (by omega) (by omega)
    have n2 : 0 ≤ (-(c.x2 - t)) * c.h1 := Int.mul_nonneg (by omega) (by omega)
    rw [Int.neg_mul] at n1 n2
    constructor
    · intro h
      have h3 := key2.1 (by omega)
      have := le_of_sq (-((c.x2 - t) * c.h1)) (-((t - c.x1) * c.h2)) n2 n1 (by rw [Int.neg_mul_neg, Int.neg_mul_neg]; exact h3)
      omega
    · intro h
      have h3 := sq_le (-((c.x2 - t) * c.h1)) (-((t - c.x1) * c.h2)) n2 (by omega)
      rw [Int.neg_mul_neg, Int.neg_mul_neg] at h3
      have := key2.2 h3
      omega
  · rw [if_neg hx]
    have k := sg_cases (c.F t) (c.S t)
    have n1 : 0 ≤ (t - c.x1) * c.h2 := Int.mul_nonneg (by omega) (by omega)
    have n2 : 0 ≤ (c.x2 - t) * c.h1 := Int.mul_nonneg (by omega) (by omega)
    constructor
    · intro h
      exact le_of_sq _ _ n1 n2 (key.1 (by omega))
    · intro h
      have := key.2 (sq_le _ _ n1 h)
      omega
/-- lengths made times -/
theorem bend_time (a b c h k v : Int) (hh : 1 ≤ h) (hk : 1 ≤ k) (hv : 1 ≤ v) (K : (a + b - c) * (h * k) ≤ 1000 * (h + k)) :
    a * 10000 / v + b * 10000 / v ≤ cdiv (c * 10000) v + (cdiv 10000000 (v * h) + cdiv 10000000 (v * k)) := by
  have hvh := Int.mul_pos (show 0 < v by omega) (show 0 < h by omega)
  have hvk := Int.mul_pos (show 0 < v by omega) (show 0 < k by omega)
  have hhk := Int.mul_pos (show 0 < h by omega) (show 0 < k by omega)
  have X := (div_spec (a * 10000) v (by omega)).1
  have Y := (div_spec (b * 10000) v (by omega)).1
  have Z := (cdiv_spec (c * 10000) v (by omega)).1
  have U := (cdiv_spec 10000000 (v * h) hvh).1
  have W := (cdiv_spec 10000000 (v * k) hvk).1
  generalize a * 10000 / v = x at *
  generalize b * 10000 / v = y at *
  generalize cdiv (c * 10000) v = z at *
  generalize cdiv 10000000 (v * h) = r at *
  generalize cdiv 10000000 (v * k) = s at *
  have X' := Int.mul_le_mul_of_nonneg_right X (show 0 ≤ h * k by omega)
  have Y' := Int.mul_le_mul_of_nonneg_right Y (show 0 ≤ h * k by omega)
  have Z' := Int.mul_le_mul_of_nonneg_right Z (show 0 ≤ h * k by omega)
  have U' := Int.mul_le_mul_of_nonneg_right U (show 0 ≤ k by omega)
  have W' := Int.mul_le_mul_of_nonneg_right W (show 0 ≤ h by omega)
  have fin : (x + y) * (v * (h * k)) ≤ (z + (r + s)) * (v * (h * k)) := by
    have f1 : (x + y) * (v * (h * k)) = x * v * (h * k) + y * v * (h * k) := by grind
    have f2 : (z + (r + s)) * (v * (h * k)) = z * v * (h * k) + (r * (v * h) * k + s * (v * k) * h) := by grind
    have f3 : a * 10000 * (h * k) + b * 10000 * (h * k) - c * 10000 * (h * k) = 10000 * ((a + b - c) * (h * k)) := by grind
    have f4 : 1000 * (h + k) = 1000 * h + 1000 * k := by grind
    rw [f1, f2]; omega
  exact Int.le_of_mul_le_mul_right fin (Int.mul_pos (by omega) hhk)
/-- with one speed the least time is that of the straight way -/
theorem straight (c : Cr) (o : c.ok) (hv : c.v1 = c.v2) : legLo (c.x2 - c.x1) (c.h1 + c.h2) c.v1 ≤ c.lHi ∧ c.lLo ≤ legHi (c.x2 - c.x1) (c.h1 + c.h2) c.v1 := by
  have hk := k_is c o
  have o' := o
  obtain ⟨p1, p2, p3, p4, p5, p6, p7, p8, p9, p10, p11, p12⟩ := o
  have ka := hk.a
  have kb := hk.b
  have tri : ∀ t, -100000 ≤ t → t ≤ 100000 → legLo (c.x2 - c.x1) (c.h1 + c.h2) c.v1 ≤ c.tHi t := by
    intro t t0 t1
    have b := leg_bounds (c.x2 - c.x1) (c.h1 + c.h2) c.v1 (by omega) (by omega) (by omega) (by omega) p9
    have m := triangle (t - c.x1) (c.x2 - t) c.h1 c.h2 c.v1 (by omega) (by omega) (by omega) (by omega) (by omega) (by omega) (by omega) (by omega) p9
    rw [show t - c.x1 + (c.x2 - t) = c.x2 - c.x1 by omega] at m
    unfold Cr.tHi
    rw [← hv]; omega
  constructor
  · unfold Cr.lHi
    unfold Cr.lo at ka
    unfold Cr.hi at kb
    have t1 := tri c.k (by omega) (by omega)
    split
    · have hlt : c.k < c.hi := by assumption
      unfold Cr.hi at hlt
      have t2 := tri (c.k + 1) (by omega) (by omega)
      omega
    · exact t1
  · have sk := (slope_one c o' hv c.k ka kb).1 (hk.p _ ka (Int.le_refl _))
    have sn : (c.x2 - c.k) * c.h1 - (c.k - c.x1) * c.h2 ≤ c.h1 + c.h2 := by
      by_cases hlt : c.k < c.hi
      · have q := hk.q (c.k + 1) (by omega) (by omega)
        have := mt (slope_one c o' hv (c.k + 1) (by omega) (by omega)).2 (by omega)
        have e1 : (c.k + 1 - c.x1) * c.h2 = (c.k - c.x1) * c.h2 + c.h2 := by grind
        have e2 : (c.x2 - (c.k + 1)) * c.h1 = (c.x2 - c.k) * c.h1 - c.h1 := by grind
        omega
      · have e : c.k = c.hi := by omega
        unfold Cr.hi at e
        have n1 : 0 ≤ (c.k - c.x1) * c.h2 := Int.mul_nonneg (by omega) (by omega)
        have n2 : 0 ≤ (-(c.x2 - c.k)) * c.h1 := Int.mul_nonneg (by omega) (by omega)
        rw [Int.neg_mul] at n2
        omega
    have hpq : 0 ≤ (c.k - c.x1) * (c.x2 - c.k) := by
      unfold Cr.lo at ka
      unfold Cr.hi at kb
      rcases Int.le_total c.x1 c.x2 with x | x
      · exact Int.mul_nonneg (by omega) (by omega)
      · exact Int.mul_nonneg_of_nonpos_of_nonpos (by omega) (by omega)
    unfold Cr.lo at ka
    unfold Cr.hi at kb
    have s1 := sqL_bounds (c.k - c.x1) c.h1 (by omega) (by omega) (by omega) (by omega)
    have s2 := sqL_bounds (c.x2 - c.k) c.h2 (by omega) (by omega) (by omega) (by omega)
    have s3 := sqL_bounds (c.x2 - c.x1) (c.h1 + c.h2) (by omega) (by omega) (by omega) (by omega)
    have r1 := rt_spec _ s1.1 (by omega)
    have r2 := rt_spec _ s2.1 (by omega)
    have r3 := rtU_spec _ s3.1 (by omega)
    have C : 1000000 * ((c.k - c.x1 + (c.x2 - c.k)) * (c.k - c.x1 + (c.x2 - c.k)) + (c.h1 + c.h2) * (c.h1 + c.h2)) ≤ rtU (sqL (c.x2 - c.x1) (c.h1 + c.h2)) * rtU (sqL (c.x2 - c.x1) (c.h1 + c.h2)) := by
      rw [show c.k - c.x1 + (c.x2 - c.k) = c.x2 - c.x1 by omega]; exact r3.2.1
    have K := bend (c.k - c.x1) (c.x2 - c.k) c.h1 c.h2 _ _ _ hpq p5 p7 r1.1 r2.1 r3.1 r1.2.1 r2.2.1 C (by omega) (by omega)
    have T := bend_time _ _ _ c.h1 c.h2 c.v1 p5 p7 (by omega) K
    have L : c.tLo c.k - c.bd ≤ legHi (c.x2 - c.x1) (c.h1 + c.h2) c.v1 := by
      unfold Cr.tLo Cr.bd legLo legHi
      rw [← hv]; omega
    have b := leg_bounds (c.x2 - c.x1) (c.h1 + c.h2) c.v1 (by omega) (by omega) (by omega) (by omega) p9
    unfold Cr.lLo
    split <;> omega
theorem leastHi_at (c : Cr) (o : c.ok) : ∃ t, c.lo ≤ t ∧ t ≤ c.hi ∧ c.lHi = c.tHi t := by
  have hk := k_is c o
  unfold Cr.lHi
  split
  · rcases Int.le_total (c.tHi c.k) (c.tHi (c.k + 1)) with h | h
    · exact ⟨c.k, hk.a, hk.b, Int.min_eq_left h⟩
    · exact ⟨c.k + 1, by have := hk.a; omega, by omega, Int.min_eq_right h⟩
  · exact ⟨c.k, hk.a, hk.b, rfl⟩
/-- a deeper place is not reached sooner -/
theorem deeper (c d : Cr) (o : c.ok) (o' : d.ok) (e1 : c.x1 = d.x1) (e2 : c.h1 = d.h1) (e3 : c.v1 = d.v1) (e4 : c.x2 = d.x2) (e5 : c.v2 = d.v2) (h : c.h2 ≤ d.h2) : c.lLo ≤ d.lHi := by
  obtain ⟨t, t1, t2, e⟩ := leastHi_at d o'
  rw [e]
  have l := least_is c o t (by unfold Cr.lo at *; omega) (by unfold Cr.hi at *; omega)
  refine Int.le_trans l ?_
  have p1 := o.a1; have p2 := o.a2; have p3 := o.b1; have p4 := o.b2; have p5 := o.d1; have p6 := o'.d2; have p7 := o.f1
  unfold Cr.lo at t1; unfold Cr.hi at t2
  unfold Cr.tHi
  rw [e1, e2, e3, e4, e5]
  have s1 := sqL_bounds (d.x2 - t) c.h2 (by omega) (by omega) (by omega) (by omega)
  have s2 := sqL_bounds (d.x2 - t) d.h2 (by omega) (by omega) (by omega) (by omega)
  have m := legHi_mono (d.x2 - t) c.h2 (d.x2 - t) d.h2 d.v2 s1.1 (by unfold sqL; have := sq_le c.h2 d.h2 (by omega) h; omega) (by omega) (by omega)
  omega
/-- no place of the plane, wherever it is, is faster -/
theorem nowhere (c : Cr) (o : c.ok) (s : Int) (s0 : -100000 ≤ s) (s1 : s ≤ 100000) : c.lLo ≤ c.tHi s := by
  have p1 := o.a1; have p2 := o.a2; have p3 := o.b1; have p4 := o.b2; have p5 := o.d1; have p6 := o.d2; have p7 := o.f1; have p8 := o.c1; have p9 := o.c2; have p10 := o.e1
  have go : ∀ t, c.lo ≤ t → t ≤ c.hi → (t - c.x1) * (t - c.x1) ≤ (s - c.x1) * (s - c.x1) → (c.x2 - t) * (c.x2 - t) ≤ (c.x2 - s) * (c.x2 - s) → c.lLo ≤ c.tHi s := by
    intro t t1 t2 g1 g2
    refine Int.le_trans (least_is c o t t1 t2) ?_
    unfold Cr.lo at t1; unfold Cr.hi at t2
    unfold Cr.tHi
    have a1 := sqL_bounds (t - c.x1) c.h1 (by omega) (by omega) (by omega) (by omega)
    have a2 := sqL_bounds (s - c.x1) c.h1 (by omega) (by omega) (by omega) (by omega)
    have b1 := sqL_bounds (c.x2 - t) c.h2 (by omega) (by omega) (by omega) (by omega)
    have b2 := sqL_bounds (c.x2 - s) c.h2 (by omega) (by omega) (by omega) (by omega)
    have m1 := legHi_mono (t - c.x1) c.h1 (s - c.x1) c.h1 c.v1 a1.1 (by unfold sqL; omega) (by omega) (by omega)
    have m2 := legHi_mono (c.x2 - t) c.h2 (c.x2 - s) c.h2 c.v2 b1.1 (by unfold sqL; omega) (by omega) (by omega)
    omega
  have sq_abs : ∀ a b : Int, (0 ≤ a ∧ a ≤ b) ∨ (b ≤ a ∧ a ≤ 0) → a * a ≤ b * b := by
    intro a b hab
    rcases hab with ⟨x, y⟩ | ⟨x, y⟩
    · exact sq_le a b x y
    · have := sq_le (-a) (-b) (by omega) (by omega); rwa [Int.neg_mul_neg, Int.neg_mul_neg] at this
  by_cases h1 : s < c.lo
  · refine go c.lo (Int.le_refl _) (by unfold Cr.lo Cr.hi; omega) (sq_abs _ _ ?_) (sq_abs _ _ ?_) <;> (unfold Cr.lo at *; omega)
  · by_cases h2 : c.hi < s
    · refine go c.hi (by unfold Cr.lo Cr.hi; omega) (Int.le_refl _) (sq_abs _ _ ?_) (sq_abs _ _ ?_) <;> (unfold Cr.hi at *; omega)
    · exact least_is c o s (by omega) (by omega)
/-- where a wall is met -/
theorem wall_in (k x2 n h : Int) (lo hi : Int) (a1 : lo ≤ k) (a2 : k ≤ hi) (b1 : lo ≤ x2) (b2 : x2 ≤ hi) (hh : 1 ≤ h) (n0 : 0 ≤ n) (n1 : n ≤ h) :
    lo ≤ k + (x2 - k) * n / h ∧ k + (x2 - k) * n / h ≤ hi ∧ (x2 - k) * n / h ≤ cdiv ((x2 - k) * n) h ∧ cdiv ((x2 - k) * n) h ≤ (x2 - k) * n / h + 1 := by
  have d := div_spec ((x2 - k) * n) h (by omega)
  have e := cdiv_spec ((x2 - k) * n) h (by omega)
  have lower : ∀ m : Int, m * h ≤ (x2 - k) * n → m ≤ (x2 - k) * n / h := fun m hm => Int.le_ediv_of_mul_le (by omega) hm
  have upper : ∀ m : Int, (x2 - k) * n < (m + 1) * h → (x2 - k) * n / h ≤ m := fun m hm => by
    have := (Int.ediv_lt_iff_lt_mul (show 0 < h by omega)).2 hm; omega
  have f1 : (x2 - k) * n / h ≤ cdiv ((x2 - k) * n) h := by
    by_cases hh : (x2 - k) * n / h ≤ cdiv ((x2 - k) * n) h
    · exact hh
    · have := Int.mul_le_mul_of_nonneg_right (show cdiv ((x2 - k) * n) h + 1 ≤ (x2 - k) * n / h by omega) (show 0 ≤ h by omega)
      rw [Int.add_mul] at this; omega
  have f2 : cdiv ((x2 - k) * n) h ≤ (x2 - k) * n / h + 1 := cdiv_le_of _ _ _ (by omega) (by rw [Int.add_mul]; omega)
  rcases Int.le_total 0 (x2 - k) with x | x
  · have g0 : 0 ≤ (x2 - k) * n := Int.mul_nonneg x n0
    have g1 : (x2 - k) * n ≤ (x2 - k) * h := Int.mul_le_mul_of_nonneg_left n1 x
    have l := lower 0 (by omega)
    have u := upper (x2 - k) (by rw [Int.add_mul]; omega)
    exact ⟨by omega, by omega, f1, f2⟩
  · have g0 : (x2 - k) * n ≤ 0 := Int.mul_nonpos_of_nonpos_of_nonneg x n0
    have g1 : (x2 - k) * h ≤ (x2 - k) * n := by
      have := Int.mul_le_mul_of_nonneg_left n1 (show 0 ≤ -(x2 - k) by omega)
      rw [Int.neg_mul, Int.neg_mul] at this; omega
    have l := lower (x2 - k) g1
    have u := upper 0 (by rw [Int.add_mul]; omega)
    exact ⟨by omega, by omega, f1, f2⟩
end Go.Proofs.RayM
