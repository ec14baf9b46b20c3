/- the reference's directions and pitches -/
import Derived.Test.YtnhbmmpjifliaaaGreatDoorYb
import Derived.Test.YtnhbmmpjifliaaaGreatDoorU6
namespace Go.Proofs.YtnhbmmpjifliaaaGreatDoor
open Go.RowKit Go.Shelf RayM
set_option linter.unusedSimpArgs false
set_option linter.unusedVariables false
set_option maxRecDepth 100000 in
set_option maxHeartbeats 1000000 in
theorem rSpeed_any (v : Int) (w : World) :
    Calls Tryz.prog 106 #[.int .i64 v] w fun e w' => e = .returned (.int .i64 (unl (inB v 500 10000) 2)) ∧ w = w' := by
  cases h : inB v 500 10000
  · have H := Lib.hid h; clear h
    go_enter Tryz.func106, Tryz.ntmps106
    go_wp2_with (go_at_call 14; (with_reducible refine (bwithin_any _ _ _ _).mono ?_); (first | rw [H.out]); rintro e w' ⟨rfl, rfl⟩)
    go_ret
    exact ⟨rfl, rfl⟩
  · have H := Lib.hid h; clear h
    go_enter Tryz.func106, Tryz.ntmps106
    go_wp2_with (go_at_call 14; (with_reducible refine (bwithin_any _ _ _ _).mono ?_); (first | rw [H.out]); rintro e w' ⟨rfl, rfl⟩)
    go_ret
    exact ⟨rfl, rfl⟩
set_option maxRecDepth 100000 in
set_option maxHeartbeats 1000000 in
theorem rSound_any (s k : Int) (w : World) :
    Calls Tryz.prog 63 #[.int .i64 s, .int .i64 k] w fun e w' => e = .returned (.int .i64 (wvE s k)) ∧ w = w' := by
  have HS := Lib.hid (fun w => rSpeed_any s w)
  unfold wvE
  cases h1 : inB s 500 10000
  · rw [h1] at HS
    clear h1
    go_enter Tryz.func63, Tryz.ntmps63
    go_wp2_with (first | (go_at_call 106; (with_reducible refine (HS.out _).mono ?_); rintro e w' ⟨rfl, rfl⟩))
    go_ret
    exact ⟨by simp [fst, unl], rfl⟩
  · rw [h1] at HS
    cases h2 : inB k 1 50000
    · have H2 := Lib.hid h2
      clear h1 h2
      go_enter Tryz.func63, Tryz.ntmps63
      go_wp2_with (first | (go_at_call 106; (with_reducible refine (HS.out _).mono ?_); rintro e w' ⟨rfl, rfl⟩) | (go_at_call 14; (with_reducible refine (bwithin_any _ _ _ _).mono ?_); (first | rw [H2.out]); rintro e w' ⟨rfl, rfl⟩))
      go_ret
      exact ⟨by simp [fst, unl], rfl⟩
    · have H2 := Lib.hid h2
      clear h1 h2
      go_enter Tryz.func63, Tryz.ntmps63
      go_wp2_with (first | (go_at_call 106; (with_reducible refine (HS.out _).mono ?_); rintro e w' ⟨rfl, rfl⟩) | (go_at_call 14; (with_reducible refine (bwithin_any _ _ _ _).mono ?_); (first | rw [H2.out]); rintro e w' ⟨rfl, rfl⟩))
      go_ret
      exact ⟨by simp [fst, unl], rfl⟩
set_option maxRecDepth 100000 in
set_option maxHeartbeats 1000000 in
theorem rPitch_any (p s k a b r : Int) (w : World) :
    Calls Tryz.prog 19 #[.agg #[.int .i64 p, .int .i64 s, .int .i64 k, .int .i64 a, .int .i64 b, .int .i64 r]] w fun e w' => e = .returned (.int .i64 (ptE p s k)) ∧ Below w.heap.size w w' := by
  have HS := Lib.hid (fun w => rSound_any s k w)
  unfold ptE
  generalize wvE s k = u at *
  cases h1 : inB p 1 1000
  · have H1 := Lib.hid h1; clear h1
    go_enter Tryz.func19, Tryz.ntmps19
    go_wp2_with (first | (go_at_call 63; (with_reducible refine (HS.out _).mono ?_); rintro e w' ⟨rfl, rfl⟩) | (go_at_call 14; (with_reducible refine (bwithin_any _ _ _ _).mono ?_); (first | rw [H1.out]); rintro e w' ⟨rfl, rfl⟩))
    go_ret
    exact ⟨by by_cases q : u = 0 <;> simp [fst, unl, q], (by repeat (first | exact Below.refl _ _ | refine Below.drew ?_ | refine below_drewN ?_ _ | refine Below.setCell ?_ (by first | omega | (simp; done) | (simp; omega)) _ | refine Below.alloc ?_ (by first | omega | (simp; done) | (simp; omega)) _))⟩
  · have H1 := Lib.hid h1; clear h1
    go_enter Tryz.func19, Tryz.ntmps19
    go_wp2_with (first | (go_at_call 63; (with_reducible refine (HS.out _).mono ?_); rintro e w' ⟨rfl, rfl⟩) | (go_at_call 14; (with_reducible refine (bwithin_any _ _ _ _).mono ?_); (first | rw [H1.out]); rintro e w' ⟨rfl, rfl⟩))
    go_ret
    exact ⟨by by_cases q : u = 0 <;> simp [fst, unl, q], (by repeat (first | exact Below.refl _ _ | refine Below.drew ?_ | refine below_drewN ?_ _ | refine Below.setCell ?_ (by first | omega | (simp; done) | (simp; omega)) _ | refine Below.alloc ?_ (by first | omega | (simp; done) | (simp; omega)) _))⟩
set_option maxRecDepth 100000 in
set_option maxHeartbeats 1000000 in
theorem rTurn_any (a b r : Int) (w : World) :
    Calls Tryz.prog 21 #[.agg #[.int .i64 a, .int .i64 b, .int .i64 r]] w fun e w' => e = .returned (.int .i64 (tuE a b r)) ∧ Below w.heap.size w w' := by
  unfold tuE huB
  cases h1 : inB r 1 1000
  · have H1 := Lib.hid h1; clear h1
    go_enter Tryz.func21, Tryz.ntmps21
    go_wp2_with (first | (go_at_call 14; (with_reducible refine (bwithin_any _ _ _ _).mono ?_); (first | rw [H1.out]); rintro e w' ⟨rfl, rfl⟩))
    go_ret
    exact ⟨by first | rfl | simp [unl, *], (by repeat (first | exact Below.refl _ _ | refine Below.drew ?_ | refine below_drewN ?_ _ | refine Below.setCell ?_ (by first | omega | (simp; done) | (simp; omega)) _ | refine Below.alloc ?_ (by first | omega | (simp; done) | (simp; omega)) _))⟩
  · have hr : 1 ≤ r ∧ r ≤ 1000 := by simpa [inB] using h1
    obtain ⟨r0, r1⟩ := hr
    have H1 := Lib.hid h1; clear h1
    cases h2 : inB a (-r) r
    · have H2 := Lib.hid h2; clear h2
      go_enter Tryz.func21, Tryz.ntmps21
      go_wp2_with (first | (go_at_call 14; (with_reducible refine (bwithin_any _ _ _ _).mono ?_); (first | rw [H2.out] | rw [H1.out]); rintro e w' ⟨rfl, rfl⟩))
      go_ret
      exact ⟨by first | rfl | simp [unl, *], (by repeat (first | exact Below.refl _ _ | refine Below.drew ?_ | refine below_drewN ?_ _ | refine Below.setCell ?_ (by first | omega | (simp; done) | (simp; omega)) _ | refine Below.alloc ?_ (by first | omega | (simp; done) | (simp; omega)) _))⟩
    · have ha : -r ≤ a ∧ a ≤ r := by simpa [inB] using h2
      obtain ⟨a0, a1⟩ := ha
      have H2 := Lib.hid h2; clear h2
      cases h3 : inB b (-r) r
      · have H3 := Lib.hid h3; clear h3
        go_enter Tryz.func21, Tryz.ntmps21
        go_wp2_with (first | (go_at_call 14; (with_reducible refine (bwithin_any _ _ _ _).mono ?_); (first | rw [H3.out] | rw [H2.out] | rw [H1.out]); rintro e w' ⟨rfl, rfl⟩))
        go_ret
        exact ⟨by first | rfl | simp [unl, *], (by repeat (first | exact Below.refl _ _ | refine Below.drew ?_ | refine below_drewN ?_ _ | refine Below.setCell ?_ (by first | omega | (simp; done) | (simp; omega)) _ | refine Below.alloc ?_ (by first | omega | (simp; done) | (simp; omega)) _))⟩
      · have hb : -r ≤ b ∧ b ≤ r := by simpa [inB] using h3
        obtain ⟨b0, b1⟩ := hb
        have H3 := Lib.hid h3; clear h3
        obtain ⟨z, hz⟩ : ∃ z, z = (IntKind.i64.wrap (IntKind.i64.wrap (a * a) + IntKind.i64.wrap (b * b)) == IntKind.i64.wrap (r * r)) := ⟨_, rfl⟩
        rw [← hz]
        have sa : -1000000 ≤ a * a ∧ a * a ≤ 1000000 := by
          have h := Int.natAbs_mul_self (a := a)
          have h1 : a.natAbs * a.natAbs ≤ 1000 * 1000 := Nat.mul_le_mul (by omega) (by omega)
          omega
        have sb : -1000000 ≤ b * b ∧ b * b ≤ 1000000 := by
          have h := Int.natAbs_mul_self (a := b)
          have h1 : b.natAbs * b.natAbs ≤ 1000 * 1000 := Nat.mul_le_mul (by omega) (by omega)
          omega
        have sr : -1000000 ≤ r * r ∧ r * r ≤ 1000000 := by
          have h := Int.natAbs_mul_self (a := r)
          have h1 : r.natAbs * r.natAbs ≤ 1000 * 1000 := Nat.mul_le_mul (by omega) (by omega)
          omega
        rw [wrap_self (a * a) (by omega) (by omega), wrap_self (b * b) (by omega) (by omega), wrap_self (r * r) (by omega) (by omega), wrap_self (a * a + b * b) (by omega) (by omega)] at hz
        cases z
        · have n1 : (a * a + b * b != r * r) = true := by simp [bne, ← hz]
          clear hz
          go_enter Tryz.func21, Tryz.ntmps21
          go_wp2_with (first | (go_at_call 14; (with_reducible refine (bwithin_any _ _ _ _).mono ?_); (first | rw [H3.out] | rw [H2.out] | rw [H1.out]); rintro e w' ⟨rfl, rfl⟩))
          go_ret
          exact ⟨by first | rfl | simp [unl, *], (by repeat (first | exact Below.refl _ _ | refine Below.drew ?_ | refine below_drewN ?_ _ | refine Below.setCell ?_ (by first | omega | (simp; done) | (simp; omega)) _ | refine Below.alloc ?_ (by first | omega | (simp; done) | (simp; omega)) _))⟩
        · have n1 : (a * a + b * b != r * r) = false := by simp [bne, ← hz]
          clear hz
          by_cases hq : 0 < b
          · have n2 : decide (b ≤ 0) = false := by simp; omega
            go_enter Tryz.func21, Tryz.ntmps21
            go_wp2_with (first | (go_at_call 14; (with_reducible refine (bwithin_any _ _ _ _).mono ?_); (first | rw [H3.out] | rw [H2.out] | rw [H1.out]); rintro e w' ⟨rfl, rfl⟩))
            go_ret
            exact ⟨by first | rfl | simp [unl, *], (by repeat (first | exact Below.refl _ _ | refine Below.drew ?_ | refine below_drewN ?_ _ | refine Below.setCell ?_ (by first | omega | (simp; done) | (simp; omega)) _ | refine Below.alloc ?_ (by first | omega | (simp; done) | (simp; omega)) _))⟩
          · have n2 : decide (b ≤ 0) = true := by simp; omega
            go_enter Tryz.func21, Tryz.ntmps21
            go_wp2_with (first | (go_at_call 14; (with_reducible refine (bwithin_any _ _ _ _).mono ?_); (first | rw [H3.out] | rw [H2.out] | rw [H1.out]); rintro e w' ⟨rfl, rfl⟩))
            go_ret
            exact ⟨by first | rfl | simp [unl, *], (by repeat (first | exact Below.refl _ _ | refine Below.drew ?_ | refine below_drewN ?_ _ | refine Below.setCell ?_ (by first | omega | (simp; done) | (simp; omega)) _ | refine Below.alloc ?_ (by first | omega | (simp; done) | (simp; omega)) _))⟩
set_option maxRecDepth 100000 in
set_option maxHeartbeats 1000000 in
theorem rSize_any (n : Int) (w : World) (h0 : -4611686018427387904 ≤ n) (h1 : n ≤ 4611686018427387904) :
    Calls Tryz.prog 24 #[.int .i64 n] w fun e w' => e = .returned (.int .i64 (max n (-n))) ∧ w = w' := by
  go_enter Tryz.func24, Tryz.ntmps24
  go_wp2
  go_ret
  exact ⟨by first | rfl | (congr 2; omega), rfl⟩
set_option maxRecDepth 100000 in
set_option maxHeartbeats 1000000 in
theorem rFree_any (p s k a b r : Int) (w : World) (L : Lb p s k) (r0 : 1 ≤ r) (r1 : r ≤ 1000) (a0 : -r ≤ a) (a1 : a ≤ r) :
    Calls Tryz.prog 22 #[.agg #[.int .i64 p, .int .i64 s, .int .i64 k, .int .i64 a, .int .i64 b, .int .i64 r]] w fun e w' => e = .returned (.bool (gfB p s k a r)) ∧ Below w.heap.size w w' := by
  obtain ⟨p0, p1, s0, s1, k0, k1, m0, m1⟩ := L
  have SZ := Lib.hid (fun w => rSize_any a w (by omega) (by omega))
  unfold gfB
  obtain ⟨u, hu⟩ : ∃ u, u = max a (-a) := ⟨_, rfl⟩
  have u0 : 0 ≤ u := by omega
  have u1 : u ≤ r := by omega
  rw [← hu] at SZ ⊢
  clear hu
  have v1 : IntKind.i64.wrap (p * k) = p * k := wrap_self _ (by omega) (by omega)
  have e1 : 0 ≤ p * k * (r + u) := Int.mul_nonneg (by omega) (by omega)
  have e2 : p * k * (r + u) ≤ 50000000 * 2000 := Int.mul_le_mul m1 (by omega) (by omega) (by omega)
  have e3 : 0 ≤ 100 * s * r := Int.mul_nonneg (by omega) (by omega)
  have e4 : 100 * s * r ≤ 1000000 * 1000 := Int.mul_le_mul (by omega) r1 (by omega) (by omega)
  have v2 : IntKind.i64.wrap (p * k * (r + u)) = p * k * (r + u) := wrap_self _ (by omega) (by omega)
  have v3 : IntKind.i64.wrap (100 * s * r) = 100 * s * r := wrap_self _ (by omega) (by omega)
  go_enter Tryz.func22, Tryz.ntmps22
  go_wp2
  go_quiet ((go_at_call 24; exact Calls.quiet_of_same ((SZ.out _).mono fun e w' h => ⟨h.1, h.2.symm⟩)))
  go_wp2
  go_ret
  exact ⟨rfl, (by repeat (first | exact Below.refl _ _ | refine Below.drew ?_ | refine below_drewN ?_ _ | refine Below.setCell ?_ (by first | omega | (simp; done) | (simp; omega)) _ | refine Below.alloc ?_ (by first | omega | (simp; done) | (simp; omega)) _))⟩
end Go.Proofs.YtnhbmmpjifliaaaGreatDoor
