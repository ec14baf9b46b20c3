/- maths of lags -/
import Derived.Test.YtoieemgdkpnbfaaFl9
namespace Go.Proofs.Ytoieemgdkpnbfaa
open Go.RowKit RayM
set_option linter.unusedSimpArgs false
set_option linter.unusedVariables false
/-- the sum of the products of samples that are a lag apart, as the reference makes it -/
def cr (x y : Nat → Int) (lag : Int) : Nat → Int
  | 0 => 0
  | t + 1 => cr x y lag t + (if 0 ≤ (t : Int) + lag ∧ (t : Int) + lag ≤ 63 then x t * y ((t : Int) + lag).toNat else 0)
theorem cr_yes (x y : Nat → Int) (lag : Int) (t : Nat) (h : 0 ≤ (t : Int) + lag ∧ (t : Int) + lag ≤ 63) : cr x y lag (t + 1) = cr x y lag t + x t * y ((t : Int) + lag).toNat := by
  show cr x y lag t + _ = _
  rw [if_pos h]
theorem cr_no (x y : Nat → Int) (lag : Int) (t : Nat) (h : ¬ (0 ≤ (t : Int) + lag ∧ (t : Int) + lag ≤ 63)) : cr x y lag (t + 1) = cr x y lag t := by
  show cr x y lag t + _ = _
  rw [if_neg h, Int.add_zero]
theorem cr_low (x y : Nat → Int) (lag : Int) : ∀ t, t ≤ lk0 lag → cr x y lag t = 0
  | 0, _ => rfl
  | t + 1, h => by
    have hh : (t : Int) + 1 ≤ max 0 (-lag) := by unfold lk0 at h; omega
    rw [cr_no x y lag t (by omega)]
    exact cr_low x y lag t (by omega)
theorem cr_mid (x y : Nat → Int) (lag : Int) (l0 : -32 ≤ lag) (l1 : lag ≤ 32) : ∀ m, m ≤ lkC lag → cr x y lag (lk0 lag + m) = lkS x y lag m
  | 0, _ => cr_low x y lag _ (Nat.le_refl _)
  | m + 1, h => by
    have a1 : (lk0 lag : Int) = max 0 (-lag) := by unfold lk0; omega
    have a2 : (m : Int) + 1 ≤ min 64 (64 - lag) - max 0 (-lag) := by unfold lkC at h; omega
    rw [show lk0 lag + (m + 1) = (lk0 lag + m) + 1 from rfl, cr_yes x y lag _ (by omega), cr_mid x y lag l0 l1 m (by omega)]
    rfl
theorem cr_high (x y : Nat → Int) (lag : Int) (l0 : -32 ≤ lag) (l1 : lag ≤ 32) : ∀ j, lk0 lag + lkC lag + j ≤ 64 → cr x y lag (lk0 lag + lkC lag + j) = lk x y lag
  | 0, _ => cr_mid x y lag l0 l1 _ (Nat.le_refl _)
  | j + 1, h => by
    have a1 : (lk0 lag : Int) = max 0 (-lag) := by unfold lk0; omega
    have a2 : (lkC lag : Int) = min 64 (64 - lag) - max 0 (-lag) := by unfold lkC; omega
    rw [show lk0 lag + lkC lag + (j + 1) = (lk0 lag + lkC lag + j) + 1 from rfl, cr_no x y lag _ (by omega)]
    exact cr_high x y lag l0 l1 j (by omega)
theorem cr_lk (x y : Nat → Int) (lag : Int) (l0 : -32 ≤ lag) (l1 : lag ≤ 32) : cr x y lag 64 = lk x y lag := by
  have a1 : (lk0 lag : Int) = max 0 (-lag) := by unfold lk0; omega
  have a2 : (lkC lag : Int) = min 64 (64 - lag) - max 0 (-lag) := by unfold lkC; omega
  have := cr_high x y lag l0 l1 (64 - (lk0 lag + lkC lag)) (by omega)
  rwa [show lk0 lag + lkC lag + (64 - (lk0 lag + lkC lag)) = 64 by omega] at this
theorem cr_in (x y : Nat → Int) (lag : Int) (hx : ∀ i, i < 64 → -2047 ≤ x i ∧ x i ≤ 2047) (hy : ∀ i, i < 64 → -2047 ≤ y i ∧ y i ≤ 2047) : ∀ t : Nat, t ≤ 64 → -(4194304 * (t : Int)) ≤ cr x y lag t ∧ cr x y lag t ≤ 4194304 * (t : Int)
  | 0, _ => ⟨by show _ ≤ (0 : Int); omega, by show (0 : Int) ≤ _; omega⟩
  | t + 1, h => by
    have ih := cr_in x y lag hx hy t (by omega)
    by_cases hh : 0 ≤ (t : Int) + lag ∧ (t : Int) + lag ≤ 63
    · rw [cr_yes x y lag t hh]
      have := prod_in (x t) (y ((t : Int) + lag).toNat) (hx t (by omega)) (hy _ (by omega))
      omega
    · rw [cr_no x y lag t hh]; omega
/-! what is found -/
theorem lgU_val (s : Int → Int) (p : Int × Int) (lag : Int) (h : p.2 = s p.1) : (lgU s p lag).2 = s (lgU s p lag).1 := by
  unfold lgU; split
  · rfl
  · exact h
theorem lgU_in (s : Int → Int) (p : Int × Int) (lag n : Int) (h : -n ≤ p.1 ∧ p.1 ≤ n) (hl : -n ≤ lag ∧ lag ≤ n) : -n ≤ (lgU s p lag).1 ∧ (lgU s p lag).1 ≤ n := by
  unfold lgU; split
  · exact hl
  · exact h
theorem lg_val (s : Int → Int) : ∀ n, (lg s n).2 = s (lg s n).1
  | 0 => rfl
  | n + 1 => lgU_val _ _ _ (lgU_val _ _ _ (lg_val s n))
theorem lg_in (s : Int → Int) : ∀ n : Nat, -(n : Int) ≤ (lg s n).1 ∧ (lg s n).1 ≤ n
  | 0 => ⟨by show _ ≤ (0 : Int); omega, by show (0 : Int) ≤ _; omega⟩
  | n + 1 => by
    have ih := lg_in s n
    exact lgU_in s _ _ _ (lgU_in s _ _ _ (by omega) (by omega)) (by omega)
theorem lg_zero (s : Int → Int) (h : ∀ lag, s lag = 0) : ∀ n, (lg s n).1 = 0 ∧ (lg s n).2 = 0
  | 0 => ⟨rfl, h 0⟩
  | n + 1 => by
    have ih := lg_zero s h n
    have one : ∀ (p : Int × Int) (lag : Int), p.1 = 0 ∧ p.2 = 0 → (lgU s p lag).1 = 0 ∧ (lgU s p lag).2 = 0 := fun p lag hp => by
      unfold lgU
      rw [if_neg (by rw [h, hp.2]; omega)]
      exact hp
    exact one _ _ (one _ _ ih)
theorem lg_last (s : Int → Int) (M : Nat) (h : ∀ lag : Int, -(M : Int) ≤ lag → lag < M → s lag < s M) : (lg s M).1 = M := by
  cases M with
  | zero => rfl
  | succ n =>
    show (lgU s (lgU s (lg s n) _) ((n : Int) + 1)).1 = _
    have h1 := lg_in s n
    have h2 : (lgU s (lg s n) (-((n : Int) + 1))).2 = s (lgU s (lg s n) (-((n : Int) + 1))).1 := lgU_val _ _ _ (lg_val s n)
    have h3 : -((n : Int) + 1) ≤ (lgU s (lg s n) (-((n : Int) + 1))).1 ∧ (lgU s (lg s n) (-((n : Int) + 1))).1 ≤ n := by
      unfold lgU; split
      · show _ ≤ -((n : Int) + 1) ∧ -((n : Int) + 1) ≤ _; omega
      · omega
    generalize lgU s (lg s n) (-((n : Int) + 1)) = p at *
    unfold lgU
    rw [if_pos]
    · rfl
    · rw [h2]
      exact h p.1 (by omega) (by omega)
/-! a trace and itself -/
def sqs (F : Nat → Int) : Nat → Int
  | 0 => 0
  | t + 1 => sqs F t + F t * F t
def hb (F : Nat → Int) (k t : Nat) : Int := if k ≤ t then F (t - k) else 0
def pr (F : Nat → Int) (k : Nat) : Nat → Int
  | 0 => 0
  | t + 1 => pr F k t + F t * hb F k t
def df (F : Nat → Int) (k : Nat) : Nat → Int
  | 0 => 0
  | t + 1 => df F k t + (F t - hb F k t) * (F t - hb F k t)
theorem sq_nn (a : Int) : 0 ≤ a * a := by
  rcases Int.le_total 0 a with h | h
  · exact Int.mul_nonneg h h
  · exact Int.mul_nonneg_of_nonpos_of_nonpos h h
theorem sq_sub (a b : Int) : (a - b) * (a - b) = a * a - 2 * (a * b) + b * b := by
  rw [Int.sub_mul, Int.mul_sub, Int.mul_sub, Int.mul_comm b a]; omega
theorem sqs_mono (F : Nat → Int) (n : Nat) : ∀ k, sqs F n ≤ sqs F (n + k)
  | 0 => Int.le_refl _
  | k + 1 => by
    have := sqs_mono F n k
    have := sq_nn (F (n + k))
    show _ ≤ sqs F (n + k) + F (n + k) * F (n + k)
    omega
theorem df_eq (F : Nat → Int) (k : Nat) : ∀ t, df F k t = sqs F t - 2 * pr F k t + sqs F (t - k)
  | 0 => by show (0 : Int) = 0 - 2 * 0 + sqs F (0 - k); rw [Nat.zero_sub]; rfl
  | t + 1 => by
    show df F k t + _ = (sqs F t + F t * F t) - 2 * (pr F k t + F t * hb F k t) + _
    rw [df_eq F k t, sq_sub]
    by_cases h : k ≤ t
    · have e : hb F k t = F (t - k) := by unfold hb; rw [if_pos h]
      rw [e, show t + 1 - k = (t - k) + 1 by omega]
      show _ = _ - _ + (sqs F (t - k) + F (t - k) * F (t - k))
      omega
    · have e : hb F k t = 0 := by unfold hb; rw [if_neg h]
      rw [e, show t + 1 - k = 0 by omega, show t - k = 0 by omega]
      omega
theorem df_nn (F : Nat → Int) (k : Nat) : ∀ t, 0 ≤ df F k t
  | 0 => Int.le_refl _
  | t + 1 => by
    have := df_nn F k t
    have := sq_nn (F t - hb F k t)
    show 0 ≤ df F k t + _
    omega
theorem df_zero (F : Nat → Int) (k : Nat) : ∀ t, df F k t ≤ 0 → ∀ i, i < t → F i = hb F k i
  | 0, _, i, hi => by omega
  | t + 1, h, i, hi => by
    have h0 := df_nn F k t
    have h1 := sq_nn (F t - hb F k t)
    have h2 : df F k t + (F t - hb F k t) * (F t - hb F k t) ≤ 0 := h
    by_cases e : i = t
    · subst e
      have h3 : (F i - hb F k i) * (F i - hb F k i) = 0 := by omega
      rcases Int.mul_eq_zero.1 h3 with q | q <;> omega
    · exact df_zero F k t (by omega) i (by omega)
theorem pr_lt (F : Nat → Int) (k n : Nat) (hk : 0 < k) (i : Nat) (hi : i < n) (hF : F i ≠ 0) : pr F k n < sqs F n := by
  have e := df_eq F k n
  have nn := df_nn F k n
  have mo : sqs F (n - k) ≤ sqs F n := by
    by_cases h : k ≤ n
    · have := sqs_mono F (n - k) k
      rwa [show n - k + k = n by omega] at this
    · rw [show n - k = 0 by omega]
      have := sqs_mono F 0 n
      rwa [Nat.zero_add] at this
  by_cases h : pr F k n < sqs F n
  · exact h
  · have z := df_zero F k n (by omega)
    have all : ∀ j, j < n → F j = 0 := fun j => by
      induction j using Nat.strongRecOn with
      | ind j ih =>
        intro hj
        rw [z j hj]
        unfold hb
        split
        · exact ih (j - k) (by omega) (by omega)
        · rfl
    exact absurd (all i hi) hF
end Go.Proofs.Ytoieemgdkpnbfaa
