/- lowest terms, and comparing fractions -/
import Derived.Test.YtnhbmmpjifliaaaGreatDoorB2
namespace Go.Proofs.YtnhbmmpjifliaaaGreatDoor
open Go.RowKit RayM
set_option linter.unusedSimpArgs false
set_option linter.unusedVariables false
set_option maxRecDepth 100000 in
set_option maxHeartbeats 1000000 in
theorem baseSize_any (n : Nat) (w : World) (h1 : n ≤ 9223372036854775807) :
    Calls Tryz.prog 24 #[.int .i64 n] w fun e w' => e = .returned (.int .i64 n) ∧ w = w' := by
  have e : max (n : Int) (-(n : Int)) = n := by omega
  have E := Lib.hid e; clear e
  go_enter Tryz.func24, Tryz.ntmps24
  go_wp2
  go_ret
  exact ⟨by show Ending.returned (.int .i64 (max (n : Int) (-(n : Int)))) = _; rw [E.out], rfl⟩
set_option maxRecDepth 100000 in
set_option maxHeartbeats 1000000 in
theorem gcd_any (a b : Nat) (w : World) (ha : a ≤ 9223372036854775807) (hb : b ≤ 9223372036854775807) :
    Calls Tryz.prog 107 #[.int .i64 a, .int .i64 b] w fun e w' => e = .returned (.int .i64 (Nat.gcd a b : Nat)) ∧ Below w.heap.size w w' := by
  have hg0 : Nat.gcd a b ≤ 9223372036854775807 := by
    by_cases h : b = 0
    · subst h; rw [Nat.gcd_zero_right]; exact ha
    · exact Nat.le_trans (Nat.gcd_le_right _ (by omega)) hb
  generalize hg : Nat.gcd a b = g at *
  have HG := Lib.hid hg; clear hg
  go_enter Tryz.func107, Tryz.ntmps107
  go_wp2
  go_loopw [0, 1] (fun s5 s6 wr => ∃ x y : Nat, s5 = .int .i64 x ∧ s6 = .int .i64 y ∧ x ≤ 9223372036854775807 ∧ y ≤ 9223372036854775807 ∧ Below w.heap.size w wr ∧ Hid (Nat.gcd x y = g)) (fun _ s6 _ => (intOf s6).toNat)
  case atStart => exact ⟨_, _, rfl, rfl, ha, hb, Below.refl _ _, HG⟩
  case round =>
    obtain ⟨x, y, rfl, rfl, hx, hy, hb, I⟩ := hrel
    by_cases h0 : y = 0
    · subst h0
      have e : x = g := by rw [← I.out, Nat.gcd_zero_right]
      have E := Lib.hid e; clear e
      go_wp2_with (go_at_call 24; refine (baseSize_any _ _ (by omega)).mono ?_; rintro e w' ⟨rfl, rfl⟩)
      go_ret
      exact ⟨by rw [E.out]; rfl, hb⟩
    · have n0 : ((y : Int) != 0) = true := by simp; omega
      have n1 : ((y : Int) == 0) = false := by simp; omega
      have n2 : (1 : Int) ≤ (y : Int) := by omega
      have J : Hid (Nat.gcd y (x % y) = g) := by rw [← I.out]; show Nat.gcd y (x % y) = Nat.gcd x y; rw [Nat.gcd_comm x y, Nat.gcd_rec y x, Nat.gcd_comm]
      have hm : x % y < y := Nat.mod_lt _ (by omega)
      go_wp2
      go_quiet (fail)
      go_wp2
      go_roundw
      case rel => exact ⟨y, x % y, rfl, by go_num, hy, by omega, below_drewN hb _, J⟩
      case measure => simp [intOf]; omega
set_option maxRecDepth 100000 in
set_option maxHeartbeats 1000000 in
/-- Lowest -/
theorem lowest_any (a b : Int) (w : World) (a0 : 0 ≤ a) (a1 : a ≤ 9223372036854775807) (b0 : 1 ≤ b) (b1 : b ≤ 9223372036854775807) :
    Calls Tryz.prog 65 #[.int .i64 a, .int .i64 b] w fun e w' => e = .returned (.agg #[.int .i64 (lowN a b), .int .i64 (lowD a b)]) ∧ Below w.heap.size w w' := by
  obtain ⟨g0, g1⟩ := gcd_facts a b a0 b0 b1
  have hn : lowN a b = a / (Nat.gcd a.natAbs b.natAbs : Int) := rfl
  have hd : lowD a b = b / (Nat.gcd a.natAbs b.natAbs : Int) := rfl
  have hc := fun w => gcd_any a.natAbs b.natAbs w (by omega) (by omega)
  have ea : (a.natAbs : Int) = a := by omega
  have eb : (b.natAbs : Int) = b := by omega
  rw [ea, eb] at hc
  generalize (Nat.gcd a.natAbs b.natAbs : Int) = g at *
  have q1 := Int.ediv_nonneg a0 (show 0 ≤ g by omega)
  have q2 := Int.ediv_le_self g a0
  have q3 := Int.ediv_nonneg (show 0 ≤ b by omega) (show 0 ≤ g by omega)
  have q4 := Int.ediv_le_self g (show 0 ≤ b by omega)
  have HN := Lib.hid hn; have HD := Lib.hid hd; have HC := Lib.hid hc; clear hn hd hc ea eb
  have n1 : (g == 0) = false := by simp; omega
  go_enter Tryz.func65, Tryz.ntmps65
  go_wp2_with fail
  refine (HC.out _).mono ?_
  rintro e w1 ⟨rfl, hb1⟩
  have qw10 : w1.cell? ⟨w.heap.size, 0, none⟩ = some (.int .i64 0) := cell_later hb1 (by simp [go_sem])
  have qw11 : w1.cell? ⟨w.heap.size, 1, none⟩ = some (.int .i64 0) := cell_later hb1 (by simp [go_sem])
  have qw1f0 : w1.frozen? ⟨w.heap.size, 0, none⟩ = false := frozen_after hb1 (v := .int .i64 0) (by simp [go_sem]) (by simp [go_sem])
  have qw1f1 : w1.frozen? ⟨w.heap.size, 1, none⟩ = false := frozen_after hb1 (v := .int .i64 0) (by simp [go_sem]) (by simp [go_sem])
  have zz10 := World.block_lt_of_cell? _ _ qw10
  dsimp only at zz10
  have HB1 : Hid (Below w.heap.size w w1) := below_after (by repeat (first | exact Below.refl _ _ | refine Below.drew ?_ | refine below_drewN ?_ _ | refine Below.setCell ?_ (by first | omega | (simp; done) | (simp; omega)) _ | refine Below.alloc ?_ (by first | omega | (simp; done) | (simp; omega)) _)) hb1 (by simp)
  clear hb1
  go_wp2
  go_region
  all_goals
    go_wp2
    exact bodyPost_ret (v := .agg #[.int .i64 (a / g), .int .i64 (b / g)]) (by simp [results, Tryz.results65, go_sem, qw10, qw11]) rfl ⟨by rw [HN.out, HD.out], (by repeat (first | exact HB1.out | refine Below.drew ?_ | refine Below.setCell ?_ (by first | omega | (simp; done) | (simp; omega)) _))⟩
/-- a step of comparing n over d with m over k -/
theorem cmp_lt (n d m k : Int) (hd : 0 < d) (hk : 0 < k) (h : n / d < m / k) : n * k < m * d := by
  have a := div_spec n d hd
  have b := div_spec m k hk
  have e1 : n * k < (n / d + 1) * d * k := by
    have : n < (n / d + 1) * d := by rw [Int.add_mul]; omega
    exact Int.mul_lt_mul_of_pos_right this hk
  have e2 : (n / d + 1) * d * k ≤ m / k * d * k := Int.mul_le_mul_of_nonneg_right (Int.mul_le_mul_of_nonneg_right (by omega) (by omega)) (by omega)
  have e3 : m / k * d * k = m / k * k * d := by ac_rfl
  have e4 : m / k * k * d ≤ m * d := Int.mul_le_mul_of_nonneg_right b.1 (by omega)
  omega
theorem sg_eq (a b c d : Int) (h : a - b = c - d) : sg a b = sg c d := by
  have := sg_cases a b
  have := sg_cases c d
  omega
theorem sg_swap_neg (a b : Int) : sg a b = -sg b a := by
  have := sg_cases a b
  have := sg_cases b a
  omega

/-- the loop's hold: the sign of n over d against m over k -/
structure CmpInv (n d m k s : Int) : Prop where
  n0 : 0 ≤ n
  m0 : 0 ≤ m
  d0 : 1 ≤ d
  k0 : 1 ≤ k
  n1 : n ≤ 4611686018427387000
  m1 : m ≤ 4611686018427387000
  d1 : d ≤ 4611686018427387000
  k1 : k ≤ 4611686018427387000
  e : sg (n * k) (m * d) = s
set_option maxRecDepth 100000 in
set_option maxHeartbeats 1000000 in
theorem compare_any (n d m k : Int) (w : World) (n0 : 0 ≤ n) (m0 : 0 ≤ m) (d0 : 1 ≤ d) (k0 : 1 ≤ k) (n1 : n ≤ 4611686018427387000) (m1 : m ≤ 4611686018427387000) (d1 : d ≤ 4611686018427387000) (k1 : k ≤ 4611686018427387000) :
    Calls Tryz.prog 23 #[.int .i64 n, .int .i64 d, .int .i64 m, .int .i64 k] w fun e w' => e = .returned (.int .i64 (sg (n * k) (m * d))) ∧ w = w' := by
  generalize hs : sg (n * k) (m * d) = s
  have inv : Hid (CmpInv n d m k s) := ⟨n0, m0, d0, k0, n1, m1, d1, k1, hs⟩
  clear hs
  go_enter Tryz.func23, Tryz.ntmps23
  go_wp2
  go_loop [0, 1, 2, 3] (fun a b c e => ∃ n d m k : Int, a = .int .i64 n ∧ b = .int .i64 d ∧ c = .int .i64 m ∧ e = .int .i64 k ∧ Hid (CmpInv n d m k s)) (fun _ b _ e => (intOf b).toNat + (intOf e).toNat)
  case atStart => exact ⟨n, d, m, k, rfl, rfl, rfl, rfl, inv⟩
  case round =>
    clear inv n0 m0 d0 k0 n1 m1 d1 k1
    obtain ⟨n, d, m, k, rfl, rfl, rfl, rfl, I⟩ := hrel
    obtain ⟨n0, m0, d0, k0, n1, m1, d1, k1, he⟩ := I.out
    clear I
    have fn := Lib.hid (fun w => floor_any n d w (by omega) (by omega) (by omega) (by omega))
    have fm := Lib.hid (fun w => floor_any m k w (by omega) (by omega) (by omega) (by omega))
    have an := div_spec n d (by omega)
    have am := div_spec m k (by omega)
    have q0 := div_le_self' n d n0 d0
    have r0 := div_le_self' m k m0 k0
    have qd := Int.mul_nonneg q0.1 (show 0 ≤ d by omega)
    have rk := Int.mul_nonneg r0.1 (show 0 ≤ k by omega)
    by_cases h1 : n / d < m / k
    · have hv : s = -1 := by rw [← he, sg_neg]; exact cmp_lt n d m k (by omega) (by omega) h1
      have HV := Lib.hid hv; clear hv he
      generalize n / d = p at *
      generalize m / k = q at *
      go_wp2_with fail
      refine (fn.out _).mono ?_
      rintro e w' ⟨rfl, rfl⟩
      go_wp2_with fail
      refine (fm.out _).mono ?_
      rintro e w' ⟨rfl, rfl⟩
      go_wp2
      go_ret
      exact ⟨by rw [HV.out]; rfl, rfl⟩
    · by_cases h2 : m / k < n / d
      · have hv : s = 1 := by rw [← he, sg_swap_neg, (sg_neg _ _).2 (cmp_lt m k n d (by omega) (by omega) h2)]; rfl
        have HV := Lib.hid hv; clear hv he
        generalize n / d = p at *
        generalize m / k = q at *
        go_wp2_with fail
        refine (fn.out _).mono ?_
        rintro e w' ⟨rfl, rfl⟩
        go_wp2_with fail
        refine (fm.out _).mono ?_
        rintro e w' ⟨rfl, rfl⟩
        go_wp2
        go_ret
        exact ⟨by rw [HV.out]; rfl, rfl⟩
      · have hpq : m / k = n / d := by omega
        rw [hpq] at fm am r0 rk
        have hsg : sg ((n - n / d * d) * k) ((m - n / d * k) * d) = s := by
          rw [← he]
          apply sg_eq
          have x1 : n / d * d * k = n / d * k * d := by ac_rfl
          rw [Int.sub_mul, Int.sub_mul]; omega
        clear he hpq h1 h2
        generalize n / d = p at *
        obtain ⟨n', hn'⟩ : ∃ x, x = n - p * d := ⟨_, rfl⟩
        obtain ⟨m', hm'⟩ : ∃ x, x = m - p * k := ⟨_, rfl⟩
        rw [← hn', ← hm'] at hsg
        have nb : 0 ≤ n' ∧ n' < d := by omega
        have mb : 0 ≤ m' ∧ m' < k := by omega
        have HN : Hid (n - p * d = n') := hn'.symm
        have HM : Hid (m - p * k = m') := hm'.symm
        have pd : p * d ≤ n := by omega
        have pk : p * k ≤ m := by omega
        clear hn' hm'
        by_cases z1 : n' = 0
        · by_cases z2 : m' = 0
          · have hv : s = 0 := by rw [← hsg, z1, z2]; simp [sg]
            have HV := Lib.hid hv; clear hv hsg
            have t1 : (n' == 0) = true := by simp [z1]
            have t2 : (m' == 0) = true := by simp [z2]
            clear z1 z2
            go_wp2_with fail
            refine (fn.out _).mono ?_
            rintro e w' ⟨rfl, rfl⟩
            go_wp2_with fail
            refine (fm.out _).mono ?_
            rintro e w' ⟨rfl, rfl⟩
            have g1 := HN.out; have g2 := HM.out
            go_wp2
            go_ret
            exact ⟨by rw [HV.out]; rfl, rfl⟩
          · have hv : s = -1 := by
              rw [← hsg, z1, sg_neg, Int.zero_mul]
              exact Int.mul_pos (by omega) (by omega)
            have HV := Lib.hid hv; clear hv hsg
            have t1 : (n' == 0) = true := by simp [z1]
            have t2 : (m' == 0) = false := by simp [z2]
            clear z1 z2
            go_wp2_with fail
            refine (fn.out _).mono ?_
            rintro e w' ⟨rfl, rfl⟩
            go_wp2_with fail
            refine (fm.out _).mono ?_
            rintro e w' ⟨rfl, rfl⟩
            have g1 := HN.out; have g2 := HM.out
            go_wp2
            go_ret
            exact ⟨by rw [HV.out]; rfl, rfl⟩
        · by_cases z2 : m' = 0
          · have hv : s = 1 := by
              rw [← hsg, z2, sg_swap_neg, (sg_neg _ _).2 (by rw [Int.zero_mul]; exact Int.mul_pos (by omega) (by omega))]; rfl
            have HV := Lib.hid hv; clear hv hsg
            have t1 : (n' == 0) = false := by simp [z1]
            have t2 : (m' == 0) = true := by simp [z2]
            clear z1 z2
            go_wp2_with fail
            refine (fn.out _).mono ?_
            rintro e w' ⟨rfl, rfl⟩
            go_wp2_with fail
            refine (fm.out _).mono ?_
            rintro e w' ⟨rfl, rfl⟩
            have g1 := HN.out; have g2 := HM.out
            go_wp2
            go_ret
            exact ⟨by rw [HV.out]; rfl, rfl⟩
          · have J : Hid (CmpInv k m' d n' s) := ⟨by omega, by omega, by omega, by omega, k1, d1, by omega, by omega, by rw [← hsg, Int.mul_comm k n', Int.mul_comm d m']⟩
            have t1 : (n' == 0) = false := by simp [z1]
            have t2 : (m' == 0) = false := by simp [z2]
            clear z1 z2 hsg
            go_wp2_with fail
            refine (fn.out _).mono ?_
            rintro e w' ⟨rfl, rfl⟩
            go_wp2_with fail
            refine (fm.out _).mono ?_
            rintro e w' ⟨rfl, rfl⟩
            have g1 := HN.out; have g2 := HM.out
            go_wp2
            clear g1 g2
            go_round
            case rel => exact ⟨k, m', d, n', rfl, rfl, rfl, rfl, J⟩
            case measure => simp [intOf]; omega
end Go.Proofs.YtnhbmmpjifliaaaGreatDoor
