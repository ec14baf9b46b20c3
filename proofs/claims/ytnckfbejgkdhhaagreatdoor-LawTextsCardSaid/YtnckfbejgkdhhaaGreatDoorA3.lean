import Derived.Test.YtnckfbejgkdhhaaGreatDoorA2
namespace Go.Proofs.YtnckfbejgkdhhaaGreatDoor
open Go.RowKit RayM
set_option linter.unusedSimpArgs false
set_option linter.unusedVariables false

theorem bitLenAux_lt : ∀ (f x : Nat), x < 2 ^ f → x < 2 ^ Lib.bitLenAux f x
  | 0, x, h => by simp [Lib.bitLenAux] at *; exact h
  | f + 1, x, h => by
    unfold Lib.bitLenAux
    split
    · omega
    · have := bitLenAux_lt f (x / 2) (by rw [Nat.pow_succ] at h; omega)
      rw [Nat.pow_add]; omega
theorem start_root (n : Int) (h0 : 0 ≤ n) (h1 : n < 1152921504606846976) :
    ∃ r : Int, wrap64 (2 ^ ((Lib.bitLen n.toNat + 1) / 2)) = r ∧ 1 ≤ r ∧ r ≤ 1073741824 ∧ rt n ≤ r := by
  have e60 : (2 : Nat) ^ 60 = 1152921504606846976 := by decide
  have e64 : (2 : Nat) ^ 64 = 18446744073709551616 := by decide
  have e30 : (2 : Nat) ^ 30 = 1073741824 := by decide
  have a := Lib.bitLen_le n.toNat 60 (by omega) (by omega)
  have b : n.toNat < 2 ^ Lib.bitLen n.toNat := bitLenAux_lt 64 n.toNat (by omega)
  generalize Lib.bitLen n.toNat = L at *
  have c : (2 : Nat) ^ ((L + 1) / 2) ≤ 2 ^ 30 := Nat.pow_le_pow_right (by omega) (by omega)
  have d : (2 : Nat) ^ L ≤ 2 ^ ((L + 1) / 2) * 2 ^ ((L + 1) / 2) := by rw [← Nat.pow_add]; exact Nat.pow_le_pow_right (by omega) (by omega)
  have p := Nat.two_pow_pos ((L + 1) / 2)
  have e : ((2 : Int) ^ ((L + 1) / 2)) = ((2 ^ ((L + 1) / 2) : Nat) : Int) := by simp
  rw [e]
  generalize 2 ^ ((L + 1) / 2) = q at *
  refine ⟨(q : Int), ?_, by omega, by omega, ?_⟩
  · unfold wrap64; omega
  · have s := rt_spec n h0 (by omega)
    have m : ((q * q : Nat) : Int) = (q : Int) * q := mul_cast q q
    have := lt_of_sq (rt n) (q : Int) s.1 (by omega) (by omega)
    omega

set_option maxHeartbeats 400000 in
theorem rootDown_any (n : Int) (w : World) (h0 : 0 ≤ n) (h1 : n < 1152921504606846976) :
    Calls Tryz.prog 133 #[.int .i64 n] w fun e w' => e = .returned (.int .i64 (rt n)) ∧ w = w' := by
  have hr := start_root n h0 h1
  have hL := Lib.bitLen_le n.toNat 60 (by omega) (by have e60 : (2 : Nat) ^ 60 = 1152921504606846976 := by decide
                                                     omega)
  have s := rt_spec n h0 (by omega)
  go_enter Tryz.func133, Tryz.ntmps133
  go_wp2_with (fail)
  refine (len_any _ _ (by omega) (by omega)).mono ?_
  rintro e w' ⟨rfl, rfl⟩
  generalize Lib.bitLen n.toNat = L at *
  go_wp2
  obtain ⟨r0, hr0, p1, p2, p3⟩ := hr
  rw [hr0]
  clear hr0
  generalize ht : rt n = t at *
  have HT := Lib.hid ht; clear ht
  go_loop [3] (fun u => ∃ r : Int, u = .int .i64 r ∧ t ≤ r ∧ r ≤ 1073741824) (fun u => (intOf u).toNat)
  case atStart => exact ⟨r0, rfl, p3, p2⟩
  case round =>
    obtain ⟨r, rfl, q1, q2⟩ := hrel
    have b1 := mul_le r r 1073741824 1073741824 (by omega) (by omega) q2 q2
    have b0 := sq_nonneg r
    by_cases hgt : n < r * r
    · have r1 : 1 ≤ r := by
        by_cases hz : r = 0
        · subst hz; omega
        · omega
      have nw := newton n r t s.1 s.2.1 (by omega) hgt
      have nl : n / r ≤ n := Int.ediv_le_self r h0
      have nl2 : n / r < r := Int.ediv_lt_of_lt_mul (by omega) hgt
      go_wp2
      go_round
      case rel => exact ⟨_, rfl, nw.1, by omega⟩
      case measure => simp [intOf]; omega
    · have : r = t := by
        have := le_of_sq r t (by omega) s.1
        by_cases hh : r = t
        · exact hh
        · have := sq_le (t + 1) r (by omega) (by omega)
          omega
      subst this
      go_wp2
      go_ret
      exact ⟨by rw [HT.out]; rfl, rfl⟩

set_option maxHeartbeats 400000 in
theorem rootUp_any (n : Int) (w : World) (h0 : 0 ≤ n) (h1 : n < 1152921504606846976) :
    Calls Tryz.prog 134 #[.int .i64 n] w fun e w' => e = .returned (.int .i64 (rtU n)) ∧ w = w' := by
  obtain ⟨s, s1, s2⟩ := rt_spec n h0 (by omega)
  have s3 := sq_nonneg (rt n)
  have hu : rtU n = if rt n * rt n < n then rt n + 1 else rt n := rfl
  have HU := Lib.hid hu; clear hu
  have hb : rt n ≤ 1073741824 := le_of_sq _ _ s (by omega) (by omega)
  by_cases h : rt n * rt n < n
  · go_enter Tryz.func134, Tryz.ntmps134
    go_wp2_with (go_at_call 133; refine (rootDown_any _ _ (by omega) (by omega)).mono ?_; rintro e w' ⟨rfl, rfl⟩)
    go_ret
    exact ⟨by rw [HU.out, if_pos h]; rfl, rfl⟩
  · go_enter Tryz.func134, Tryz.ntmps134
    go_wp2_with (go_at_call 133; refine (rootDown_any _ _ (by omega) (by omega)).mono ?_; rintro e w' ⟨rfl, rfl⟩)
    go_ret
    exact ⟨by rw [HU.out, if_neg (by omega)]; rfl, rfl⟩

/-- divideUp -/
theorem up_any (a b : Int) (w : World) (ha : -4611686018427387904 ≤ a) (ha' : a < 4611686018427387904) (hb : 1 ≤ b) (hb' : b < 4611686018427387904) :
    Calls Tryz.prog 54 #[.int .i64 a, .int .i64 b] w fun e w' => e = .returned (.int .i64 (cdiv a b)) ∧ w = w' := by
  by_cases h : 0 ≤ a
  · have hf := cdiv_nonneg a b (by omega) h
    have HF := Lib.hid hf; clear hf
    have r0 := Int.emod_nonneg a (show b ≠ 0 by omega)
    have q1 : a / b ≤ a := Int.ediv_le_self b h
    have q2 : 0 ≤ a / b := Int.ediv_nonneg h (by omega)
    by_cases h2 : 0 < a % b
    · have h3 : decide (0 < a % b) = true := by simpa using h2
      go_enter Tryz.func54, Tryz.ntmps54
      go_wp2
      go_ret
      exact ⟨by rw [HF.out, if_pos h2]; rfl, rfl⟩
    · have h3 : decide (0 < a % b) = false := by simpa using h2
      go_enter Tryz.func54, Tryz.ntmps54
      go_wp2
      go_ret
      exact ⟨by rw [HF.out, if_neg (by omega)]; rfl, rfl⟩
  · obtain ⟨hf, h2⟩ := cdiv_neg a b (by omega) (by omega)
    have HF := Lib.hid hf; clear hf
    have q1 : a.tdiv b ≤ 0 := by rw [(neg_parts a b (by omega) (by omega)).1]; have := Int.ediv_nonneg (show 0 ≤ -a by omega) (show 0 ≤ b by omega); omega
    have q2 : a ≤ a.tdiv b := by
      rw [(neg_parts a b (by omega) (by omega)).1]
      have := Int.ediv_le_self b (show 0 ≤ -a by omega); omega
    have h3 : decide (0 < a.tmod b) = false := by simpa using h2
    go_enter Tryz.func54, Tryz.ntmps54
    go_wp2
    go_ret
    exact ⟨by rw [HF.out]; rfl, rfl⟩

theorem abs_div (a b : Int) (hb : 1 ≤ b) : -(a.natAbs : Int) ≤ a / b ∧ a / b ≤ a.natAbs := by
  have s := div_spec a b (by omega)
  constructor
  · by_cases h2 : -(a.natAbs : Int) ≤ a / b
    · exact h2
    · exfalso
      have := mul_le (-(a / b + 1)) 1 (-(a / b + 1)) b (by omega) (by omega) (by omega) hb
      rw [Int.neg_mul, Int.neg_mul, Int.add_mul, Int.add_mul] at this
      omega
  · by_cases h : a / b ≤ 0
    · omega
    · have := mul_le (a / b) 1 (a / b) b (by omega) (by omega) (by omega) hb
      omega

end Go.Proofs.YtnckfbejgkdhhaaGreatDoor
