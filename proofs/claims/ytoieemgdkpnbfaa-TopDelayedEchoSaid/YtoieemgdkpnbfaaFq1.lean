/- maths of an echo that comes later and is stronger -/
import Derived.Test.YtoieemgdkpnbfaaFo1
import Derived.Test.YtoieemgdkpnbfaaFl7
import Derived.Test.YtoieemgdkpnbfaaFlI
import Derived.Test.YtoieemgdkpnbfaaFm2
namespace Go.Proofs.Ytoieemgdkpnbfaa
open Go.RowKit RayM
set_option linter.unusedSimpArgs false
set_option linter.unusedVariables false
/-- the samples of an echo: three of silence in front -/
def echoX (l : Nat → Int) (i : Nat) : Int := if i < 3 then 0 else l (i - 3)
theorem echoX_add (l : Nat → Int) (k : Nat) : echoX l (k + 3) = l k := by unfold echoX; rw [if_neg (by omega)]; congr 1
def eT (l : Nat → Int) (n : Nat) : Nat → Int := trS (echoX l) (n + 3)
theorem eT_front (l : Nat → Int) (n i : Nat) (h : i < 3) : eT l n i = 0 := by unfold eT trS echoX; rw [if_pos (by omega), if_pos h]
theorem eT_back (l : Nat → Int) (n i : Nat) (h : n + 3 ≤ i) : eT l n i = 0 := by unfold eT trS; rw [if_neg (by omega)]
theorem eT_mid (l : Nat → Int) (n k : Nat) (h : k < n) : eT l n (k + 3) = l k := by unfold eT trS; rw [if_pos (by omega), echoX_add]
theorem eT_in (l : Nat → Int) (n : Nat) (hl : ∀ i, i < n → -200 ≤ l i ∧ l i ≤ 200) (i : Nat) : -200 ≤ eT l n i ∧ eT l n i ≤ 200 := by
  by_cases h1 : i < 3
  · rw [eT_front l n i h1]; omega
  · by_cases h2 : n + 3 ≤ i
    · rw [eT_back l n i h2]; omega
    · have := eT_mid l n (i - 3) (by omega)
      rw [show i - 3 + 3 = i by omega] at this
      rw [this]
      exact hl _ (by omega)
/-! peaks -/
theorem pk_spec (f : Nat → Int) : ∀ m, (pk f 0 m).1 ≤ m - 1 ∧ (pk f 0 m).2 = f (pk f 0 m).1 ∧ (∀ i, i < m → f i ≤ (pk f 0 m).2) ∧ (∀ i, i < (pk f 0 m).1 → f i < (pk f 0 m).2)
  | 0 => ⟨Nat.le_refl _, rfl, fun i hi => by omega, fun i hi => absurd hi (Nat.not_lt_zero _)⟩
  | m + 1 => by
    obtain ⟨h1, h2, h3, h4⟩ := pk_spec f m
    show (if (pk f 0 m).2 < f (0 + m) then (0 + m, f (0 + m)) else pk f 0 m).1 ≤ m + 1 - 1 ∧ _
    have e : pk f 0 (m + 1) = if (pk f 0 m).2 < f (0 + m) then (0 + m, f (0 + m)) else pk f 0 m := rfl
    rw [e]
    rw [Nat.zero_add]
    by_cases h : (pk f 0 m).2 < f m
    · rw [if_pos h]
      refine ⟨by show m ≤ _; omega, rfl, fun i hi => ?_, fun i hi => ?_⟩
      · show f i ≤ f m
        by_cases q : i = m
        · subst q; omega
        · have := h3 i (by omega); omega
      · show f i < f m
        have := h3 i hi
        omega
    · rw [if_neg h]
      refine ⟨by omega, h2, fun i hi => ?_, h4⟩
      by_cases q : i = m
      · subst q; omega
      · exact h3 i (by omega)
theorem pk_is (f : Nat → Int) (m j : Nat) (hj : j < m) (h1 : ∀ i, i < m → f i ≤ f j) (h2 : ∀ i, i < j → f i < f j) : pk f 0 m = (j, f j) := by
  obtain ⟨a, b, c, d⟩ := pk_spec f m
  have e : (pk f 0 m).1 = j := by
    rcases Nat.lt_trichotomy (pk f 0 m).1 j with h | h | h
    · have := h2 _ h
      have := c j hj
      rw [b] at this
      omega
    · exact h
    · have := d j h
      have := h1 (pk f 0 m).1 (by omega)
      rw [b] at *
      omega
  refine Prod.ext e ?_
  rw [b, e]
/-! lags -/
theorem lg_max (s : Int → Int) (B : Nat) (h : ∀ lag : Int, lag ≠ B → -25 ≤ lag → lag ≤ 25 → s lag < s B) : ∀ d, B + d ≤ 25 → (lg s (B + d)).1 = B ∧ (lg s (B + d)).2 = s B
  | 0, hd => by
    have e := lg_last s B (fun lag h1 h2 => h lag (by omega) (by omega) (by omega))
    refine ⟨e, ?_⟩
    rw [Nat.add_zero, lg_val, e]
  | d + 1, hd => by
    have ih := lg_max s B h d (by omega)
    have one : ∀ (p : Int × Int) (lag : Int), lag ≠ B → -25 ≤ lag → lag ≤ 25 → p.1 = B ∧ p.2 = s B → (lgU s p lag).1 = B ∧ (lgU s p lag).2 = s B := fun p lag h0 h1 h2 hp => by
      have := h lag h0 h1 h2
      unfold lgU
      rw [if_neg (by rw [hp.2]; omega)]
      exact hp
    show (lgU s (lgU s (lg s (B + d)) (-(((B + d : Nat) : Int) + 1))) (((B + d : Nat) : Int) + 1)).1 = B ∧ (lgU s (lgU s (lg s (B + d)) (-(((B + d : Nat) : Int) + 1))) (((B + d : Nat) : Int) + 1)).2 = s B
    exact one _ _ (by omega) (by omega) (by omega) (one _ _ (by omega) (by omega) (by omega) ih)
def fw (F : Nat → Int) (j : Nat) : Nat → Int
  | 0 => 0
  | t + 1 => fw F j t + F t * F (t + j)
theorem pr_low (F : Nat → Int) (k : Nat) : ∀ t, t ≤ k → pr F k t = 0
  | 0, _ => rfl
  | t + 1, h => by
    show pr F k t + F t * hb F k t = 0
    have e : hb F k t = 0 := by unfold hb; rw [if_neg (by omega)]
    rw [pr_low F k t (by omega), e]; omega
theorem pr_fw (F : Nat → Int) (j : Nat) : ∀ n, pr F j (n + j) = fw F j n
  | 0 => pr_low F j _ (by omega)
  | n + 1 => by
    rw [show n + 1 + j = (n + j) + 1 by omega]
    show pr F j (n + j) + F (n + j) * hb F j (n + j) = fw F j n + F n * F (n + j)
    have e : hb F j (n + j) = F n := by unfold hb; rw [if_pos (by omega)]; congr 1; omega
    rw [pr_fw F j n, e, Int.mul_comm]
theorem sqs_end (F : Nat → Int) (n : Nat) (h : ∀ i, n ≤ i → F i = 0) : ∀ k, sqs F (n + k) = sqs F n
  | 0 => rfl
  | k + 1 => by
    show sqs F (n + k) + F (n + k) * F (n + k) = _
    rw [h (n + k) (by omega), sqs_end F n h k]; omega
theorem g_out (g a b : Int) : a * (g * b) = g * (a * b) := by rw [Int.mul_left_comm]
/-- an echo and it later and stronger -/
theorem lag_echo (T S : Nat → Int) (g : Int) (B : Nat) (hB : B ≤ 20) (hg : 1 ≤ g) (hT : ∀ i, 23 ≤ i → T i = 0) (hS : ∀ i, i < 64 → S i = g * hb T B i) (i0 : Nat) (h0 : T i0 ≠ 0) : (lg (lk T S) 25).1 = B := by
  have c1 : ∀ t, t ≤ 64 → cr T S (B : Int) t = g * sqs T t := fun t => by
    induction t with
    | zero => intro _; show (0 : Int) = g * 0; omega
    | succ t ih =>
      intro h
      show _ = g * (sqs T t + T t * T t)
      by_cases hh : 0 ≤ (t : Int) + B ∧ (t : Int) + B ≤ 63
      · rw [cr_yes _ _ _ _ hh, ih (by omega), hS _ (by omega)]
        have e : hb T B ((t : Int) + B).toNat = T t := by unfold hb; rw [if_pos (by omega)]; congr 1; omega
        rw [e, g_out, Int.mul_add]
      · rw [cr_no _ _ _ _ hh, ih (by omega), hT t (by omega)]; simp
  have c2 : ∀ (lag : Int) (k : Nat), (k : Int) = B - lag → lag < B → ∀ t, t ≤ 64 → -25 ≤ lag → cr T S lag t = g * pr T k t := fun lag k hk hl t => by
    induction t with
    | zero => intro _ _; show (0 : Int) = g * 0; omega
    | succ t ih =>
      intro h h25
      show _ = g * (pr T k t + T t * hb T k t)
      by_cases hh : 0 ≤ (t : Int) + lag ∧ (t : Int) + lag ≤ 63
      · rw [cr_yes _ _ _ _ hh, ih (by omega) h25, hS _ (by omega)]
        have e : hb T B ((t : Int) + lag).toNat = hb T k t := by
          unfold hb
          by_cases q : k ≤ t
          · rw [if_pos (by omega), if_pos q]; congr 1; omega
          · rw [if_neg (by omega), if_neg q]
        rw [e, g_out, Int.mul_add]
      · rw [cr_no _ _ _ _ hh, ih (by omega) h25]
        by_cases q : k ≤ t
        · rw [hT t (by omega)]; simp
        · have e : hb T k t = 0 := by unfold hb; rw [if_neg q]
          rw [e]; simp
  have c3 : ∀ (lag : Int) (j : Nat), (j : Int) = lag - B → B < lag → lag ≤ 25 → ∀ t, t ≤ 64 → cr T S lag t = g * fw T j t := fun lag j hj hl h25 t => by
    induction t with
    | zero => intro _; show (0 : Int) = g * 0; omega
    | succ t ih =>
      intro h
      show _ = g * (fw T j t + T t * T (t + j))
      by_cases hh : 0 ≤ (t : Int) + lag ∧ (t : Int) + lag ≤ 63
      · rw [cr_yes _ _ _ _ hh, ih (by omega), hS _ (by omega)]
        have e : hb T B ((t : Int) + lag).toNat = T (t + j) := by unfold hb; rw [if_pos (by omega)]; congr 1; omega
        rw [e, g_out, Int.mul_add]
      · rw [cr_no _ _ _ _ hh, ih (by omega), hT t (by omega)]; simp
  have hi : i0 < 23 := by
    by_cases h : i0 < 23
    · exact h
    · exact absurd (hT i0 (by omega)) h0
  have hgp : (0 : Int) < g := by omega
  have key : ∀ lag : Int, lag ≠ B → -25 ≤ lag → lag ≤ 25 → lk T S lag < lk T S B := fun lag hne h1 h2 => by
    rw [← cr_lk T S lag (by omega) (by omega), ← cr_lk T S B (by omega) (by omega), c1 64 (Nat.le_refl _)]
    rcases Int.lt_or_gt_of_ne hne with h | h
    · obtain ⟨k, hk⟩ : ∃ k : Nat, (k : Int) = B - lag := ⟨(B - lag).toNat, by omega⟩
      rw [c2 lag k hk h 64 (Nat.le_refl _) h1]
      exact Int.mul_lt_mul_of_pos_left (pr_lt T k 64 (by omega) i0 (by omega) h0) hgp
    · obtain ⟨j, hj⟩ : ∃ j : Nat, (j : Int) = lag - B := ⟨(lag - B).toNat, by omega⟩
      rw [c3 lag j hj h h2 64 (Nat.le_refl _), ← pr_fw, ← sqs_end T 64 (fun i hi => hT i (by omega)) j]
      exact Int.mul_lt_mul_of_pos_left (pr_lt T j (64 + j) (by omega) i0 (by omega) h0) hgp
  have := lg_max (lk T S) B key (25 - B) (by omega)
  rw [show B + (25 - B) = 25 by omega] at this
  exact this.1
/-! squares -/
theorem sq_g (g a b : Int) : (g * a - g * b) * (g * a - g * b) = g * g * ((a - b) * (a - b)) := by
  rw [← Int.mul_sub, Int.mul_assoc, Int.mul_left_comm (a - b) g, ← Int.mul_assoc, ← Int.mul_assoc]
theorem sqA_eq (l : Nat → Int) (k : Nat) : sqA l k = (l k - l (k + 2)) * (l k - l (k + 2)) + (l (k + 1) - l (k + 3)) * (l (k + 1) - l (k + 3)) := rfl
theorem sqA_nn (l : Nat → Int) (k : Nat) : 0 ≤ sqA l k := by
  rw [sqA_eq]
  have := sq_nn (l k - l (k + 2))
  have := sq_nn (l (k + 1) - l (k + 3))
  omega
theorem sq_later (T S : Nat → Int) (g : Int) (B : Nat) (hS : ∀ i, i < 64 → S i = g * hb T B i) (k : Nat) (hk : k + B < 61) : sqA S (k + B) = g * g * sqA T k := by
  have e : ∀ j, k + j + B < 64 → S (k + j + B) = g * T (k + j) := fun j hj => by
    rw [hS _ hj]
    have : hb T B (k + j + B) = T (k + j) := by unfold hb; rw [if_pos (by omega)]; congr 1; omega
    rw [this]
  have e0 := e 0 (by omega)
  rw [Nat.add_zero] at e0
  have e1 := e 1 (by omega)
  have e2 := e 2 (by omega)
  have e3 := e 3 (by omega)
  rw [sqA_eq, sqA_eq, show k + B + 2 = k + 2 + B by omega, show k + B + 1 = k + 1 + B by omega, show k + B + 3 = k + 3 + B by omega, e1, e2, e3, e0, sq_g, sq_g, Int.mul_add]
theorem sq_front (T S : Nat → Int) (g : Int) (B : Nat) (hS : ∀ i, i < 64 → S i = g * hb T B i) (hT : ∀ i, i < 3 → T i = 0) (k : Nat) (hk : k < B) (hB : B ≤ 20) : sqA S k = 0 := by
  have e : ∀ i, i < B + 3 → S i = 0 := fun i hi => by
    rw [hS _ (by omega)]
    have : hb T B i = 0 := by
      unfold hb
      split
      · exact hT _ (by omega)
      · rfl
    rw [this]; simp
  rw [sqA_eq, e k (by omega), e (k + 1) (by omega), e (k + 2) (by omega), e (k + 3) (by omega)]
  rfl
theorem sq_back (T : Nat → Int) (hT : ∀ i, 23 ≤ i → T i = 0) (k : Nat) (hk : 23 ≤ k) : sqA T k = 0 := by
  rw [sqA_eq, hT k hk, hT (k + 1) (by omega), hT (k + 2) (by omega), hT (k + 3) (by omega)]
  rfl
theorem first_not (T : Nat → Int) : ∀ n, T n ≠ 0 → ∃ i, i ≤ n ∧ T i ≠ 0 ∧ ∀ j, j < i → T j = 0 := fun n => by
  induction n using Nat.strongRecOn with
  | ind n ih =>
    intro h
    by_cases q : ∃ j, j < n ∧ T j ≠ 0
    · obtain ⟨j, hj, hT⟩ := q
      obtain ⟨i, h1, h2, h3⟩ := ih j hj hT
      exact ⟨i, by omega, h2, h3⟩
    · refine ⟨n, Nat.le_refl _, h, fun j hj => ?_⟩
      by_cases e : T j = 0
      · exact e
      · exact absurd ⟨j, hj, e⟩ q
theorem sq_some (T : Nat → Int) (hF : ∀ i, i < 3 → T i = 0) (hT : ∀ i, 23 ≤ i → T i = 0) (i0 : Nat) (h0 : T i0 ≠ 0) : ∃ k, k < 31 ∧ 0 < sqA T k := by
  obtain ⟨i, h1, h2, h3⟩ := first_not T i0 h0
  have a : 3 ≤ i := by
    by_cases q : 3 ≤ i
    · exact q
    · exact absurd (hF i (by omega)) h2
  have b : i < 23 := by
    by_cases q : i < 23
    · exact q
    · exact absurd (hT i (by omega)) h2
  refine ⟨i - 3, by omega, ?_⟩
  rw [sqA_eq, h3 (i - 3) (by omega), h3 (i - 3 + 1) (by omega), h3 (i - 3 + 2) (by omega), show i - 3 + 3 = i by omega]
  have : (0 - T i) * (0 - T i) ≠ 0 := fun q => by
    rcases Int.mul_eq_zero.1 q with q | q <;> omega
  have := sq_nn (0 - T i)
  omega
theorem peak_echo (T S : Nat → Int) (g : Int) (B : Nat) (hB : B ≤ 20) (hg : 1 ≤ g) (hF : ∀ i, i < 3 → T i = 0) (hT : ∀ i, 23 ≤ i → T i = 0) (hS : ∀ i, i < 64 → S i = g * hb T B i) (i0 : Nat) (h0 : T i0 ≠ 0) :
    pk (sqA S) 0 61 = ((pk (sqA T) 0 31).1 + B, g * g * (pk (sqA T) 0 31).2) ∧ (pk (sqA T) 0 31).1 ≤ 30 := by
  obtain ⟨a, b, c, d⟩ := pk_spec (sqA T) 31
  obtain ⟨k, hk, hp⟩ := sq_some T hF hT i0 h0
  have hv : 0 < (pk (sqA T) 0 31).2 := by have := c k hk; omega
  generalize pk (sqA T) 0 31 = p at *
  obtain ⟨A, V⟩ := p
  dsimp only at *
  have gg : (0 : Int) < g * g := Int.mul_pos (by omega) (by omega)
  have hA : sqA S (A + B) = g * g * V := by rw [sq_later T S g B hS A (by omega), b]
  refine ⟨?_, by omega⟩
  rw [← hA]
  refine pk_is (sqA S) 61 (A + B) (by omega) (fun i hi => ?_) (fun i hi => ?_)
  · rw [hA]
    by_cases q : i < B
    · rw [sq_front T S g B hS hF i q hB]
      exact Int.le_of_lt (Int.mul_pos gg hv)
    · have := sq_later T S g B hS (i - B) (by omega)
      rw [show i - B + B = i by omega] at this
      rw [this]
      refine Int.mul_le_mul_of_nonneg_left ?_ (Int.le_of_lt gg)
      by_cases r : i - B < 31
      · exact c _ r
      · rw [sq_back T hT _ (by omega)]; omega
  · rw [hA]
    by_cases q : i < B
    · rw [sq_front T S g B hS hF i q hB]
      exact Int.mul_pos gg hv
    · have := sq_later T S g B hS (i - B) (by omega)
      rw [show i - B + B = i by omega] at this
      rw [this]
      exact Int.mul_lt_mul_of_pos_left (d _ (by omega)) gg
end Go.Proofs.Ytoieemgdkpnbfaa
