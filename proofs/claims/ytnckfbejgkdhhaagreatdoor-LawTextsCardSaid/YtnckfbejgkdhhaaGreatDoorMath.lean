/- plain mathematics of chapter 1: roots, quotients rounded both ways, the slope along a plane, the crossing and the time of least time; no condition but what each lemma names. -/
set_option linter.unusedVariables false
namespace Go.Proofs.RayM
/-! the root -/
def rtN : Nat → Nat → Nat
  | 0, _ => 0
  | k + 1, n => if (2 * rtN k (n / 4) + 1) * (2 * rtN k (n / 4) + 1) ≤ n then 2 * rtN k (n / 4) + 1 else 2 * rtN k (n / 4)
theorem sq_two (r : Nat) : (2 * r) * (2 * r) = 4 * (r * r) := by
  rw [Nat.mul_mul_mul_comm]
theorem sq_succ (r : Nat) : (r + 1) * (r + 1) = r * r + 2 * r + 1 := by
  rw [Nat.add_mul, Nat.mul_add]; omega
theorem rtN_spec : ∀ k n, n < 4 ^ k → rtN k n * rtN k n ≤ n ∧ n < (rtN k n + 1) * (rtN k n + 1)
  | 0, n, h => by simp [rtN] at *; omega
  | k + 1, n, h => by
    have ih := rtN_spec k (n / 4) (by rw [Nat.pow_succ] at h; omega)
    obtain ⟨h1, h2⟩ := ih
    unfold rtN
    generalize rtN k (n / 4) = r at *
    have e1 := sq_two r
    have e2 := sq_succ (2 * r)
    have e3 := sq_succ (2 * r + 1)
    have e4 := sq_succ r
    split
    · exact ⟨by assumption, by omega⟩
    · exact ⟨by omega, by omega⟩
def rt (n : Int) : Int := rtN 31 n.toNat
theorem mul_cast (a b : Nat) : ((a * b : Nat) : Int) = (a : Int) * b := Int.natCast_mul a b
theorem rt_spec (n : Int) (h0 : 0 ≤ n) (h : n < 4611686018427387904) : 0 ≤ rt n ∧ rt n * rt n ≤ n ∧ n < (rt n + 1) * (rt n + 1) := by
  obtain ⟨m, rfl⟩ := Int.eq_ofNat_of_zero_le h0
  have hm : m < 4 ^ 31 := by
    have : (4 : Nat) ^ 31 = 4611686018427387904 := by decide
    omega
  have := rtN_spec 31 m hm
  unfold rt
  rw [Int.toNat_natCast]
  generalize rtN 31 m = r at *
  obtain ⟨a, b⟩ := this
  refine ⟨by omega, ?_, ?_⟩
  · rw [← mul_cast]; omega
  · rw [show (r : Int) + 1 = ((r + 1 : Nat) : Int) by omega, ← mul_cast]; omega
theorem mul_le (a b c d : Int) (ha : 0 ≤ a) (_hb : 0 ≤ b) (h1 : a ≤ c) (h2 : b ≤ d) : a * b ≤ c * d :=
  Int.le_trans (Int.mul_le_mul_of_nonneg_left h2 ha) (Int.mul_le_mul_of_nonneg_right h1 (by omega))
theorem sq_le (a b : Int) (ha : 0 ≤ a) (h : a ≤ b) : a * a ≤ b * b := mul_le a a b b ha ha h h
theorem sq_lt (a b : Int) (ha : 0 ≤ a) (h : a < b) : a * a < b * b := by
  have h1 := sq_le a (b - 1) ha (by omega)
  have h2 : (b - 1) * (b - 1) = b * b - 2 * b + 1 := by
    rw [Int.sub_mul, Int.mul_sub, Int.mul_sub]; omega
  omega
theorem le_of_sq (a b : Int) (_ha : 0 ≤ a) (hb : 0 ≤ b) (h : a * a ≤ b * b) : a ≤ b := by
  by_cases hh : a ≤ b
  · exact hh
  · have := sq_lt b a hb (by omega); omega
theorem lt_of_sq (a b : Int) (ha : 0 ≤ a) (hb : 0 ≤ b) (h : a * a < b * b) : a < b := by
  by_cases hh : a < b
  · exact hh
  · have := sq_le b a hb (by omega); omega
theorem rt_unique (n r : Int) (h0 : 0 ≤ n) (h : n < 4611686018427387904) (hr : 0 ≤ r) (h1 : r * r ≤ n) (h2 : n < (r + 1) * (r + 1)) : r = rt n := by
  obtain ⟨a, b, c⟩ := rt_spec n h0 h
  have i := lt_of_sq r (rt n + 1) hr (by omega) (by omega)
  have j := lt_of_sq (rt n) (r + 1) a (by omega) (by omega)
  omega
/-- the root, rounded up -/
def rtU (n : Int) : Int := if rt n * rt n < n then rt n + 1 else rt n
theorem rtU_spec (n : Int) (h0 : 0 ≤ n) (h : n < 4611686018427387904) : 0 ≤ rtU n ∧ n ≤ rtU n * rtU n ∧ rt n ≤ rtU n ∧ rtU n ≤ rt n + 1 := by
  obtain ⟨a, b, c⟩ := rt_spec n h0 h
  unfold rtU
  split
  · exact ⟨by omega, by omega, by omega, by omega⟩
  · exact ⟨by omega, by omega, by omega, by omega⟩
/-- Newton's step stays at or above the root, and falls. -/
theorem newton (n r s : Int) (hs0 : 0 ≤ s) (hs : s * s ≤ n) (hr : 0 < r) (hrn : n < r * r) : s ≤ (r + n / r) / 2 ∧ (r + n / r) / 2 < r ∧ 0 ≤ n / r := by
  have hn : 0 ≤ n := Int.le_trans (Int.mul_nonneg hs0 hs0) hs
  have d1 : n / r < r := Int.ediv_lt_of_lt_mul hr hrn
  have d0 : 0 ≤ n / r := Int.ediv_nonneg hn (by omega)
  have d2 : 2 * s - r ≤ n / r := by
    apply Int.le_ediv_of_mul_le hr
    have e : (r - s) * (r - s) = r * r - 2 * (s * r) + s * s := by
      rw [Int.sub_mul, Int.mul_sub, Int.mul_sub, Int.mul_comm r s]; omega
    have e0 : 0 ≤ (r - s) * (r - s) := by
      rcases Int.le_total 0 (r - s) with h | h
      · exact Int.mul_nonneg h h
      · exact Int.mul_nonneg_of_nonpos_of_nonpos h h
    have e2 : (2 * s - r) * r = 2 * (s * r) - r * r := by
      rw [Int.sub_mul, Int.mul_assoc]
    omega
  omega
/-- rounded up -/
def cdiv (a b : Int) : Int := -((-a) / b)
theorem floor_nonneg (a b : Int) (ha : 0 ≤ a) : a.tdiv b = a / b := Int.tdiv_eq_ediv_of_nonneg ha
/-- Go's quotient and rest of a number below 0 -/
theorem neg_parts (a b : Int) (hb : 0 < b) (ha : a < 0) : a.tdiv b = -((-a) / b) ∧ a.tmod b = -((-a) % b) := by
  have h1 := Int.neg_tdiv (-a) b
  have h2 := Int.neg_tmod (-a) b
  rw [Int.neg_neg] at h1 h2
  rw [h1, h2, Int.tdiv_eq_ediv_of_nonneg (by omega), Int.tmod_eq_emod_of_nonneg (by omega)]
  exact ⟨rfl, rfl⟩
theorem div_unique (a b q : Int) (hb : 0 < b) (h1 : q * b ≤ a) (h2 : a < (q + 1) * b) : a / b = q := by
  have i : q ≤ a / b := Int.le_ediv_of_mul_le hb h1
  have j : a / b < q + 1 := (Int.ediv_lt_iff_lt_mul hb).2 h2
  omega
theorem floor_neg (a b : Int) (hb : 0 < b) (ha : a < 0) : a / b = if a.tmod b < 0 then a.tdiv b - 1 else a.tdiv b := by
  obtain ⟨e1, e2⟩ := neg_parts a b hb ha
  have h := Int.mul_ediv_add_emod (-a) b
  have r0 := Int.emod_nonneg (-a) (show b ≠ 0 by omega)
  have r1 := Int.emod_lt_of_pos (-a) hb
  rw [e1, e2]
  generalize (-a) / b = q at *
  generalize (-a) % b = r at *
  have hb' : b * q = q * b := Int.mul_comm _ _
  split
  · apply div_unique _ _ _ hb
    · rw [Int.sub_mul, Int.neg_mul]; omega
    · rw [Int.add_mul, Int.sub_mul, Int.neg_mul]; omega
  · apply div_unique _ _ _ hb
    · rw [Int.neg_mul]; omega
    · rw [Int.add_mul, Int.neg_mul]; omega
theorem cdiv_nonneg (a b : Int) (hb : 0 < b) (ha : 0 ≤ a) : cdiv a b = if 0 < a % b then a / b + 1 else a / b := by
  have h := Int.mul_ediv_add_emod a b
  have r0 := Int.emod_nonneg a (show b ≠ 0 by omega)
  have r1 := Int.emod_lt_of_pos a hb
  unfold cdiv
  generalize a / b = q at *
  generalize a % b = r at *
  have hb' : b * q = q * b := Int.mul_comm _ _
  split
  · rw [div_unique (-a) b (-(q + 1)) hb]
    · omega
    · rw [Int.neg_mul, Int.add_mul]; omega
    · rw [Int.add_mul, Int.neg_mul, Int.add_mul]; omega
  · rw [div_unique (-a) b (-q) hb]
    · omega
    · rw [Int.neg_mul]; omega
    · rw [Int.add_mul, Int.neg_mul]; omega
theorem cdiv_neg (a b : Int) (hb : 0 < b) (ha : a < 0) : cdiv a b = a.tdiv b ∧ ¬ 0 < a.tmod b := by
  obtain ⟨e1, e2⟩ := neg_parts a b hb ha
  have r0 := Int.emod_nonneg (-a) (show b ≠ 0 by omega)
  exact ⟨by rw [e1]; rfl, by rw [e2]; omega⟩
theorem cdiv_spec (a b : Int) (hb : 0 < b) : a ≤ cdiv a b * b ∧ cdiv a b * b < a + b := by
  unfold cdiv
  have h1 := Int.ediv_mul_le (-a) (show b ≠ 0 by omega)
  have h2 := Int.lt_ediv_add_one_mul_self (-a) hb
  rw [Int.add_mul] at h2
  rw [Int.neg_mul]
  omega
theorem div_spec (a b : Int) (hb : 0 < b) : a / b * b ≤ a ∧ a < a / b * b + b := by
  have h1 := Int.ediv_mul_le a (show b ≠ 0 by omega)
  have h2 := Int.lt_ediv_add_one_mul_self a hb
  rw [Int.add_mul] at h2
  omega
/-! signs -/
def sg (a b : Int) : Int := if a < b then -1 else if b < a then 1 else 0
theorem sg_cases (a b : Int) : (a < b ∧ sg a b = -1) ∨ (b < a ∧ sg a b = 1) ∨ (a = b ∧ sg a b = 0) := by
  unfold sg; split <;> (try split) <;> omega
theorem sg_neg (a b : Int) : sg a b = -1 ↔ a < b := by have := sg_cases a b; omega
/-! the slope -/
structure Cr where
  x1 : Int
  h1 : Int
  v1 : Int
  x2 : Int
  h2 : Int
  v2 : Int
def Cr.F (c : Cr) (t : Int) : Int := (t - c.x1) * (t - c.x1) * c.v2 * c.v2 * ((c.x2 - t) * (c.x2 - t) + c.h2 * c.h2)
def Cr.S (c : Cr) (t : Int) : Int := (c.x2 - t) * (c.x2 - t) * c.v1 * c.v1 * ((t - c.x1) * (t - c.x1) + c.h1 * c.h1)
def Cr.slope (c : Cr) (t : Int) : Int := if c.x2 < c.x1 then sg (c.S t) (c.F t) else sg (c.F t) (c.S t)
def Cr.lo (c : Cr) : Int := min c.x1 c.x2
def Cr.hi (c : Cr) : Int := max c.x1 c.x2
structure Cr.ok (c : Cr) : Prop where
  a1 : -100000 ≤ c.x1
  a2 : c.x1 ≤ 100000
  b1 : -100000 ≤ c.x2
  b2 : c.x2 ≤ 100000
  c1 : 1 ≤ c.h1
  c2 : c.h1 ≤ 100000
  d1 : 1 ≤ c.h2
  d2 : c.h2 ≤ 100000
  e1 : 500 ≤ c.v1
  e2 : c.v1 ≤ 10000
  f1 : 500 ≤ c.v2
  f2 : c.v2 ≤ 10000
/-- the heart of the monotony, over squares -/
theorem mono_sq (A B A' B' H K V W : Int) (hA : 0 ≤ A) (hB : 0 ≤ B) (hA' : A ≤ A') (hB0 : 0 ≤ B') (hB' : B' ≤ B) (hH : 1 ≤ H) (hK : 1 ≤ K) (hV : 1 ≤ V) (hW : 1 ≤ W)
    (h : B * V * (A + H) < A * W * (B + K)) : B' * V * (A' + H) < A' * W * (B' + K) := by
  have hA1 : 0 < A := by
    rcases Int.lt_or_eq_of_le hA with x | x
    · exact x
    · rw [← x] at h
      simp only [Int.zero_mul, Int.zero_add] at h
      have : 0 ≤ B * V * H := Int.mul_nonneg (Int.mul_nonneg hB (by omega)) (by omega)
      omega
  have r0 : 0 < A' * W := Int.mul_pos (by omega) (by omega)
  rcases Int.lt_or_eq_of_le hB0 with hb | hb
  · have s1 : A * (A' + H) ≤ A' * (A + H) := by
      have := Int.mul_le_mul_of_nonneg_right hA' (show 0 ≤ H by omega)
      rw [Int.mul_add, Int.mul_add, Int.mul_comm A A']; omega
    have s2 : B' * (B + K) ≤ B * (B' + K) := by
      have := Int.mul_le_mul_of_nonneg_right hB' (show 0 ≤ K by omega)
      rw [Int.mul_add, Int.mul_add, Int.mul_comm B B']; omega
    have hB1 : 0 < B := by omega
    have p1 : B' * V * (A' + H) * (A * B) ≤ (B' * A') * (B * V * (A + H)) := by
      have e1 : B' * V * (A' + H) * (A * B) = (B' * V * B) * (A * (A' + H)) := by ac_rfl
      have e2 : (B' * A') * (B * V * (A + H)) = (B' * V * B) * (A' * (A + H)) := by ac_rfl
      rw [e1, e2]
      exact Int.mul_le_mul_of_nonneg_left s1 (Int.mul_nonneg (Int.mul_nonneg (by omega) (by omega)) (by omega))
    have p2 : (B' * A') * (B * V * (A + H)) < (B' * A') * (A * W * (B + K)) :=
      Int.mul_lt_mul_of_pos_left h (Int.mul_pos hb (by omega))
    have p3 : (B' * A') * (A * W * (B + K)) ≤ A' * W * (B' + K) * (A * B) := by
      have e1 : (B' * A') * (A * W * (B + K)) = (A' * W * A) * (B' * (B + K)) := by ac_rfl
      have e2 : A' * W * (B' + K) * (A * B) = (A' * W * A) * (B * (B' + K)) := by ac_rfl
      rw [e1, e2]
      exact Int.mul_le_mul_of_nonneg_left s2 (Int.mul_nonneg (Int.mul_nonneg (by omega) (by omega)) (by omega))
    exact Int.lt_of_mul_lt_mul_right (by omega : B' * V * (A' + H) * (A * B) < A' * W * (B' + K) * (A * B)) (Int.mul_nonneg hA hB)
  · rw [← hb]
    simp only [Int.zero_mul, Int.zero_add]
    exact Int.mul_pos r0 (by omega)
theorem sq_nonneg (a : Int) : 0 ≤ a * a := by
  rcases Int.le_total 0 a with h | h
  · exact Int.mul_nonneg h h
  · exact Int.mul_nonneg_of_nonpos_of_nonpos h h
theorem sq_pos (a : Int) (h : 1 ≤ a) : 1 ≤ a * a := by have := Int.mul_pos (show 0 < a by omega) (show 0 < a by omega); omega
theorem sq_sub (a b : Int) : (a - b) * (a - b) = (b - a) * (b - a) := by
  rw [← Int.neg_sub b a, Int.neg_mul_neg]
/-- along a crossing to greater numbers: where the slope is above 0 it stays so -/
theorem slope_mono (c : Cr) (o : c.ok) (s t : Int) (h1 : c.lo ≤ s) (h2 : s ≤ t) (h3 : t ≤ c.hi) (h : 0 < c.slope s) : 0 < c.slope t := by
  unfold Cr.lo at h1
  unfold Cr.hi at h3
  unfold Cr.slope at *
  have q1 := sq_pos c.h1 o.c1
  have q2 := sq_pos c.h2 o.d1
  have w1 := sq_pos c.v1 (by have := o.e1; omega)
  have w2 := sq_pos c.v2 (by have := o.f1; omega)
  by_cases hx : c.x2 < c.x1
  · rw [if_pos hx] at *
    have k := sg_cases (c.S s) (c.F s)
    have l := sg_cases (c.S t) (c.F t)
    have hlt : c.F s < c.S s := by omega
    suffices c.F t < c.S t by omega
    unfold Cr.F Cr.S at *
    have m := mono_sq ((c.x2 - s) * (c.x2 - s)) ((s - c.x1) * (s - c.x1)) ((c.x2 - t) * (c.x2 - t)) ((t - c.x1) * (t - c.x1)) (c.h2 * c.h2) (c.h1 * c.h1) (c.v2 * c.v2) (c.v1 * c.v1)
      (sq_nonneg _) (sq_nonneg _) (by rw [sq_sub c.x2 s, sq_sub c.x2 t]; exact sq_le _ _ (by omega) (by omega)) (sq_nonneg _) (by rw [sq_sub s, sq_sub t]; exact sq_le _ _ (by omega) (by omega)) q2 q1 w2 w1
    simp only [← Int.mul_assoc] at m
    exact m hlt
  · rw [if_neg hx] at *
    have k := sg_cases (c.F s) (c.S s)
    have l := sg_cases (c.F t) (c.S t)
    have hlt : c.S s < c.F s := by omega
    suffices c.S t < c.F t by omega
    unfold Cr.F Cr.S at *
    have m := mono_sq ((s - c.x1) * (s - c.x1)) ((c.x2 - s) * (c.x2 - s)) ((t - c.x1) * (t - c.x1)) ((c.x2 - t) * (c.x2 - t)) (c.h1 * c.h1) (c.h2 * c.h2) (c.v1 * c.v1) (c.v2 * c.v2)
      (sq_nonneg _) (sq_nonneg _) (sq_le _ _ (by omega) (by omega)) (sq_nonneg _) (sq_le _ _ (by omega) (by omega)) q1 q2 w1 w2
    simp only [← Int.mul_assoc] at m
    exact m hlt

theorem slope_lo (c : Cr) (o : c.ok) : c.slope c.lo ≤ 0 := by
  unfold Cr.slope Cr.lo
  have q1 := sq_pos c.h1 o.c1
  have q2 := sq_pos c.h2 o.d1
  by_cases hx : c.x2 < c.x1
  · rw [if_pos hx, Int.min_eq_right (by omega)]
    have k := sg_cases (c.S c.x2) (c.F c.x2)
    have : c.S c.x2 = 0 := by unfold Cr.S; rw [Int.sub_self]; simp
    have : 0 ≤ c.F c.x2 := by
      unfold Cr.F
      have h1 := sq_nonneg (c.x2 - c.x1)
      have h3 := o.f1
      exact Int.mul_nonneg (Int.mul_nonneg (Int.mul_nonneg h1 (by omega)) (by omega)) (by have := sq_nonneg (c.x2 - c.x2); omega)
    omega
  · rw [if_neg hx, Int.min_eq_left (by omega)]
    have k := sg_cases (c.F c.x1) (c.S c.x1)
    have : c.F c.x1 = 0 := by unfold Cr.F; rw [Int.sub_self]; simp
    have : 0 ≤ c.S c.x1 := by
      unfold Cr.S
      have h1 := sq_nonneg (c.x2 - c.x1)
      have h3 := o.e1
      exact Int.mul_nonneg (Int.mul_nonneg (Int.mul_nonneg h1 (by omega)) (by omega)) (by have := sq_nonneg (c.x1 - c.x1); omega)
    omega
/-! the crossing of least time -/
structure IsK (c : Cr) (k : Int) : Prop where
  a : c.lo ≤ k
  b : k ≤ c.hi
  p : ∀ t, c.lo ≤ t → t ≤ k → c.slope t ≤ 0
  q : ∀ t, k < t → t ≤ c.hi → 0 < c.slope t
theorem IsK.unique {c : Cr} {k l : Int} (h : IsK c k) (g : IsK c l) : k = l := by
  rcases Int.lt_trichotomy k l with x | x | x
  · have := h.q l x g.b; have := g.p l g.a (Int.le_refl _); omega
  · exact x
  · have := g.q k x h.b; have := h.p k h.a (Int.le_refl _); omega
def bis (c : Cr) : Nat → Int → Int → Int
  | 0, a, _ => a
  | f + 1, a, b => if b - a ≤ 1 then a else if 0 < c.slope ((a + b) / 2) then bis c f a ((a + b) / 2) else bis c f ((a + b) / 2) b
theorem bis_is (c : Cr) (o : c.ok) : ∀ (f : Nat) (a b : Int), a < b → b - a ≤ 2 ^ f → c.lo ≤ a → b ≤ c.hi + 1 → c.slope a ≤ 0 → (b ≤ c.hi → 0 < c.slope b) → IsK c (bis c f a b)
  | 0, a, b, h, g, i, j, s, u => by
    have : b - a ≤ 1 := by simpa using g
    unfold bis
    refine ⟨i, by omega, fun t h1 h2 => ?_, fun t h1 h2 => ?_⟩
    · by_cases hh : 0 < c.slope t
      · have := slope_mono c o t a h1 h2 (by omega) hh; omega
      · omega
    · exact slope_mono c o b t (by omega) (by omega) h2 (u (by omega))
  | f + 1, a, b, h, g, i, j, s, u => by
    unfold bis
    have e : (2 : Int) ^ (f + 1) = 2 * 2 ^ f := by rw [Int.pow_succ, Int.mul_comm]
    split
    · refine ⟨i, by omega, fun t h1 h2 => ?_, fun t h1 h2 => ?_⟩
      · by_cases hh : 0 < c.slope t
        · have := slope_mono c o t a h1 h2 (by omega) hh; omega
        · omega
      · exact slope_mono c o b t (by omega) (by omega) h2 (u (by omega))
    · split
      · exact bis_is c o f a _ (by omega) (by omega) i (by omega) s (fun _ => by assumption)
      · exact bis_is c o f _ b (by omega) (by omega) (by omega) j (by omega) u
def Cr.k (c : Cr) : Int := bis c 18 c.lo (c.hi + 1)
theorem k_is (c : Cr) (o : c.ok) : IsK c c.k := by
  have h := o
  obtain ⟨p1, p2, p3, p4, p5, p6, p7, p8, p9, p10, p11, p12⟩ := h
  have e : (2 : Int) ^ 18 = 262144 := by decide
  refine bis_is c o 18 _ _ ?_ ?_ (Int.le_refl _) (Int.le_refl _) (slope_lo c o) (fun h => by omega)
  · unfold Cr.lo Cr.hi; omega
  · rw [e]; unfold Cr.lo Cr.hi; omega

/-! times -/
def sqL (x z : Int) : Int := 1000000 * (x * x + z * z)
theorem sqL_neg (x z : Int) : sqL x (0 - z) = sqL x z := by unfold sqL; rw [Int.zero_sub, Int.neg_mul_neg]
theorem sqL_bounds (x z : Int) (a : -400000 ≤ x) (b : x ≤ 400000) (c : -400000 ≤ z) (d : z ≤ 400000) : 0 ≤ sqL x z ∧ sqL x z ≤ 320000000000000000 := by
  have k1 := sq_nonneg x
  have k2 := sq_nonneg z
  have l1 : x * x ≤ 160000000000 := by
    rcases Int.le_total 0 x with h | h
    · exact sq_le x 400000 h b
    · have := sq_le (-x) 400000 (by omega) (by omega); rw [Int.neg_mul_neg] at this; exact this
  have l2 : z * z ≤ 160000000000 := by
    rcases Int.le_total 0 z with h | h
    · exact sq_le z 400000 h d
    · have := sq_le (-z) 400000 (by omega) (by omega); rw [Int.neg_mul_neg] at this; exact this
  unfold sqL; omega
theorem rt_le (n : Int) (h0 : 0 ≤ n) (h : n ≤ 320000000000000000) : 0 ≤ rt n ∧ rt n ≤ 565685425 ∧ 0 ≤ rtU n ∧ rtU n ≤ 565685425 := by
  have s := rt_spec n h0 (by omega)
  have u := rtU_spec n h0 (by omega)
  have : rt n < 565685425 := lt_of_sq _ _ s.1 (by omega) (by omega)
  omega
/-- how long sound takes along a leg, at least and at most -/
def legLo (x z v : Int) : Int := rt (sqL x z) * 10000 / v
def legHi (x z v : Int) : Int := cdiv (rtU (sqL x z) * 10000) v
theorem div_le_self' (a b : Int) (ha : 0 ≤ a) (hb : 1 ≤ b) : 0 ≤ a / b ∧ a / b ≤ a :=
  ⟨Int.ediv_nonneg ha (by omega), Int.ediv_le_self b ha⟩
theorem cdiv_le_self (a b : Int) (ha : 0 ≤ a) (hb : 1 ≤ b) : 0 ≤ cdiv a b ∧ cdiv a b ≤ a := by
  have h := div_le_self' a b ha hb
  have r0 := Int.emod_nonneg a (show b ≠ 0 by omega)
  have e := Int.mul_ediv_add_emod a b
  rw [cdiv_nonneg a b (by omega) ha]
  split
  · refine ⟨by omega, ?_⟩
    have := mul_le 1 (a / b) b (a / b) (by omega) h.1 hb (Int.le_refl _)
    omega
  · exact h
theorem leg_bounds (x z v : Int) (a : -400000 ≤ x) (b : x ≤ 400000) (c : -400000 ≤ z) (d : z ≤ 400000) (hv : 500 ≤ v) :
    0 ≤ legLo x z v ∧ legLo x z v ≤ 5656854250000 ∧ 0 ≤ legHi x z v ∧ legHi x z v ≤ 5656854250000 ∧ legLo x z v ≤ legHi x z v := by
  have s := sqL_bounds x z a b c d
  have r := rt_le _ s.1 s.2
  have u := rtU_spec _ s.1 (by omega)
  unfold legLo legHi
  generalize rt (sqL x z) = p at *
  generalize rtU (sqL x z) = q at *
  have k := div_le_self' (p * 10000) v (by omega) (by omega)
  have l := cdiv_le_self (q * 10000) v (by omega) (by omega)
  have m1 := div_spec (p * 10000) v (by omega)
  have m2 := cdiv_spec (q * 10000) v (by omega)
  refine ⟨k.1, by omega, l.1, by omega, ?_⟩
  by_cases hh : p * 10000 / v ≤ cdiv (q * 10000) v
  · exact hh
  · have := Int.mul_le_mul_of_nonneg_right (show cdiv (q * 10000) v + 1 ≤ p * 10000 / v by omega) (show 0 ≤ v by omega)
    rw [Int.add_mul] at this; omega
def Cr.tLo (c : Cr) (t : Int) : Int := legLo (t - c.x1) c.h1 c.v1 + legLo (c.x2 - t) c.h2 c.v2
def Cr.tHi (c : Cr) (t : Int) : Int := legHi (t - c.x1) c.h1 c.v1 + legHi (c.x2 - t) c.h2 c.v2
theorem t_bounds (c : Cr) (o : c.ok) (t : Int) (h0 : -200000 ≤ t) (h1 : t ≤ 200000) : 0 ≤ c.tLo t ∧ c.tLo t ≤ 11313708500000 ∧ 0 ≤ c.tHi t ∧ c.tHi t ≤ 11313708500000 ∧ c.tLo t ≤ c.tHi t := by
  obtain ⟨p1, p2, p3, p4, p5, p6, p7, p8, p9, p10, p11, p12⟩ := o
  have a := leg_bounds (t - c.x1) c.h1 c.v1 (by omega) (by omega) (by omega) (by omega) p9
  have b := leg_bounds (c.x2 - t) c.h2 c.v2 (by omega) (by omega) (by omega) (by omega) p11
  unfold Cr.tLo Cr.tHi
  omega
def Cr.bd (c : Cr) : Int := cdiv 10000000 (c.v1 * c.h1) + cdiv 10000000 (c.v2 * c.h2)
theorem bd_bounds (c : Cr) (o : c.ok) : 0 ≤ c.bd ∧ c.bd ≤ 20000000 := by
  obtain ⟨p1, p2, p3, p4, p5, p6, p7, p8, p9, p10, p11, p12⟩ := o
  have a := cdiv_le_self 10000000 (c.v1 * c.h1) (by omega) (by have := Int.mul_pos (show 0 < c.v1 by omega) (show 0 < c.h1 by omega); omega)
  have b := cdiv_le_self 10000000 (c.v2 * c.h2) (by omega) (by have := Int.mul_pos (show 0 < c.v2 by omega) (show 0 < c.h2 by omega); omega)
  unfold Cr.bd; omega
def Cr.lLo (c : Cr) : Int := max ((if c.k < c.hi then min (c.tLo c.k) (c.tLo (c.k + 1)) else c.tLo c.k) - c.bd) 0
def Cr.lHi (c : Cr) : Int := if c.k < c.hi then min (c.tHi c.k) (c.tHi (c.k + 1)) else c.tHi c.k
end Go.Proofs.RayM
