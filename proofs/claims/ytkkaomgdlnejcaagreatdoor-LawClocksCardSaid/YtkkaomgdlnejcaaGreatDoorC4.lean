/- the reference: comparing fractions, and slopes -/
import Derived.Test.YtkkaomgdlnejcaaGreatDoorC3
import Derived.Test.YtkkaomgdlnejcaaGreatDoorC2
namespace Go.Proofs.YtkkaomgdlnejcaaGreatDoor
open Go.RowKit RayM
set_option linter.unusedSimpArgs false
set_option linter.unusedVariables false

/-- a step of comparing n over d with m over k -/
theorem cmp_lt (n d m k : Int) (hd : 0 < d) (hk : 0 < k) (h : n / d < m / k) : n * k < m * d := by
  have a := div_spec n d hd
  have b := div_spec m k hk
  have e1 : n * k < (n / d + 1) * d * k := by
    have : n < (n / d + 1) * d := by rw [Int.add_mul]; omega
    exact Int.mul_lt_mul_of_pos_right this hk
  have e2 : (n / d + 1) * d * k ≤ m / k * d * k := Int.mul_le_mul_of_nonneg_right (Int.mul_le_mul_of_nonneg_right (by omega) (by omega)) (by omega)
  have e3 : m / k * d * k = m / k * k * d := by ac_rfl
  have e4 : m / k * k * d ≤ m * d := Int.mul_le_mul_of_nonneg_right b.1 (by omega)
  omega
theorem sg_eq (a b c d : Int) (h : a - b = c - d) : sg a b = sg c d := by
  have := sg_cases a b
  have := sg_cases c d
  omega
theorem sg_swap_neg (a b : Int) : sg a b = -sg b a := by
  have := sg_cases a b
  have := sg_cases b a
  omega

/-- the loop's hold: the sign of n over d against m over k -/
structure CmpInv (n d m k s : Int) : Prop where
  n0 : 0 ≤ n
  m0 : 0 ≤ m
  d0 : 1 ≤ d
  k0 : 1 ≤ k
  n1 : n ≤ 4611686018427387000
  m1 : m ≤ 4611686018427387000
  d1 : d ≤ 4611686018427387000
  k1 : k ≤ 4611686018427387000
  e : sg (n * k) (m * d) = s
set_option maxRecDepth 100000 in
set_option maxHeartbeats 1000000 in
theorem compare_any (n d m k : Int) (w : World) (n0 : 0 ≤ n) (m0 : 0 ≤ m) (d0 : 1 ≤ d) (k0 : 1 ≤ k) (n1 : n ≤ 4611686018427387000) (m1 : m ≤ 4611686018427387000) (d1 : d ≤ 4611686018427387000) (k1 : k ≤ 4611686018427387000) :
    Calls Tryz.prog 177 #[.int .i64 n, .int .i64 d, .int .i64 m, .int .i64 k] w fun e w' => e = .returned (.int .i64 (sg (n * k) (m * d))) ∧ w = w' := by
  generalize hs : sg (n * k) (m * d) = s
  have inv : Hid (CmpInv n d m k s) := ⟨n0, m0, d0, k0, n1, m1, d1, k1, hs⟩
  clear hs
  go_enter Tryz.func177, Tryz.ntmps177
  go_wp2
  go_loop [0, 1, 2, 3] (fun a b c e => ∃ n d m k : Int, a = .int .i64 n ∧ b = .int .i64 d ∧ c = .int .i64 m ∧ e = .int .i64 k ∧ Hid (CmpInv n d m k s)) (fun _ b _ e => (intOf b).toNat + (intOf e).toNat)
  case atStart => exact ⟨n, d, m, k, rfl, rfl, rfl, rfl, inv⟩
  case round =>
    clear inv n0 m0 d0 k0 n1 m1 d1 k1
    obtain ⟨n, d, m, k, rfl, rfl, rfl, rfl, I⟩ := hrel
    obtain ⟨n0, m0, d0, k0, n1, m1, d1, k1, he⟩ := I.out
    clear I
    have fn := Lib.hid (fun w => floor_any n d w (by omega) (by omega) (by omega) (by omega))
    have fm := Lib.hid (fun w => floor_any m k w (by omega) (by omega) (by omega) (by omega))
    have an := div_spec n d (by omega)
    have am := div_spec m k (by omega)
    have q0 := div_le_self' n d n0 d0
    have r0 := div_le_self' m k m0 k0
    have qd := Int.mul_nonneg q0.1 (show 0 ≤ d by omega)
    have rk := Int.mul_nonneg r0.1 (show 0 ≤ k by omega)
    by_cases h1 : n / d < m / k
    · have hv : s = -1 := by rw [← he, RayM.sg_neg]; exact cmp_lt n d m k (by omega) (by omega) h1
      have HV := Lib.hid hv; clear hv he
      generalize n / d = p at *
      generalize m / k = q at *
      go_wp2_with fail
      refine (fn.out _).mono ?_
      rintro e w' ⟨rfl, rfl⟩
      go_wp2_with fail
      refine (fm.out _).mono ?_
      rintro e w' ⟨rfl, rfl⟩
      go_wp2
      go_ret
      exact ⟨by rw [HV.out]; rfl, rfl⟩
    · by_cases h2 : m / k < n / d
      · have hv : s = 1 := by rw [← he, sg_swap_neg, (RayM.sg_neg _ _).2 (cmp_lt m k n d (by omega) (by omega) h2)]; rfl
        have HV := Lib.hid hv; clear hv he
        generalize n / d = p at *
        generalize m / k = q at *
        go_wp2_with fail
        refine (fn.out _).mono ?_
        rintro e w' ⟨rfl, rfl⟩
        go_wp2_with fail
        refine (fm.out _).mono ?_
        rintro e w' ⟨rfl, rfl⟩
        go_wp2
        go_ret
        exact ⟨by rw [HV.out]; rfl, rfl⟩
      · have hpq : m / k = n / d := by omega
        rw [hpq] at fm am r0 rk
        have hsg : sg ((n - n / d * d) * k) ((m - n / d * k) * d) = s := by
          rw [← he]
          apply sg_eq
          have x1 : n / d * d * k = n / d * k * d := by ac_rfl
          rw [Int.sub_mul, Int.sub_mul]; omega
        clear he hpq h1 h2
        generalize n / d = p at *
        obtain ⟨n', hn'⟩ : ∃ x, x = n - p * d := ⟨_, rfl⟩
        obtain ⟨m', hm'⟩ : ∃ x, x = m - p * k := ⟨_, rfl⟩
        rw [← hn', ← hm'] at hsg
        have nb : 0 ≤ n' ∧ n' < d := by omega
        have mb : 0 ≤ m' ∧ m' < k := by omega
        have HN : Hid (n - p * d = n') := hn'.symm
        have HM : Hid (m - p * k = m') := hm'.symm
        have pd : p * d ≤ n := by omega
        have pk : p * k ≤ m := by omega
        clear hn' hm'
        by_cases z1 : n' = 0
        · by_cases z2 : m' = 0
          · have hv : s = 0 := by rw [← hsg, z1, z2]; simp [sg]
            have HV := Lib.hid hv; clear hv hsg
            have t1 : (n' == 0) = true := by simp [z1]
            have t2 : (m' == 0) = true := by simp [z2]
            clear z1 z2
            go_wp2_with fail
            refine (fn.out _).mono ?_
            rintro e w' ⟨rfl, rfl⟩
            go_wp2_with fail
            refine (fm.out _).mono ?_
            rintro e w' ⟨rfl, rfl⟩
            have g1 := HN.out; have g2 := HM.out
            go_wp2
            go_ret
            exact ⟨by rw [HV.out]; rfl, rfl⟩
          · have hv : s = -1 := by
              rw [← hsg, z1, RayM.sg_neg, Int.zero_mul]
              exact Int.mul_pos (by omega) (by omega)
            have HV := Lib.hid hv; clear hv hsg
            have t1 : (n' == 0) = true := by simp [z1]
            have t2 : (m' == 0) = false := by simp [z2]
            clear z1 z2
            go_wp2_with fail
            refine (fn.out _).mono ?_
            rintro e w' ⟨rfl, rfl⟩
            go_wp2_with fail
            refine (fm.out _).mono ?_
            rintro e w' ⟨rfl, rfl⟩
            have g1 := HN.out; have g2 := HM.out
            go_wp2
            go_ret
            exact ⟨by rw [HV.out]; rfl, rfl⟩
        · by_cases z2 : m' = 0
          · have hv : s = 1 := by
              rw [← hsg, z2, sg_swap_neg, (RayM.sg_neg _ _).2 (by rw [Int.zero_mul]; exact Int.mul_pos (by omega) (by omega))]; rfl
            have HV := Lib.hid hv; clear hv hsg
            have t1 : (n' == 0) = false := by simp [z1]
            have t2 : (m' == 0) = true := by simp [z2]
            clear z1 z2
            go_wp2_with fail
            refine (fn.out _).mono ?_
            rintro e w' ⟨rfl, rfl⟩
            go_wp2_with fail
            refine (fm.out _).mono ?_
            rintro e w' ⟨rfl, rfl⟩
            have g1 := HN.out; have g2 := HM.out
            go_wp2
            go_ret
            exact ⟨by rw [HV.out]; rfl, rfl⟩
          · have J : Hid (CmpInv k m' d n' s) := ⟨by omega, by omega, by omega, by omega, k1, d1, by omega, by omega, by rw [← hsg, Int.mul_comm k n', Int.mul_comm d m']⟩
            have t1 : (n' == 0) = false := by simp [z1]
            have t2 : (m' == 0) = false := by simp [z2]
            clear z1 z2 hsg
            go_wp2_with fail
            refine (fn.out _).mono ?_
            rintro e w' ⟨rfl, rfl⟩
            go_wp2_with fail
            refine (fm.out _).mono ?_
            rintro e w' ⟨rfl, rfl⟩
            have g1 := HN.out; have g2 := HM.out
            go_wp2
            clear g1 g2
            go_round
            case rel => exact ⟨k, m', d, n', rfl, rfl, rfl, rfl, J⟩
            case measure => simp [intOf]; omega
end Go.Proofs.YtkkaomgdlnejcaaGreatDoor
