/- directions behind the plane: the reference -/
import Derived.Test.YtkcnhgdcliljeabE1
import Derived.Test.YtkcnhgdcliljeabC1
namespace Go.Proofs.Ytkcnhgdcliljeab
open Go.RowKit RayM
set_option linter.unusedSimpArgs false
set_option linter.unusedVariables false

set_option maxRecDepth 100000 in
set_option maxHeartbeats 1000000 in
theorem baseSize_any (n : Nat) (w : World) (h1 : n ≤ 9223372036854775807) :
    Calls Try.prog 36 #[.int .i64 n] w fun e w' => e = .returned (.int .i64 n) ∧ w = w' := by
  have e : max (n : Int) (-(n : Int)) = n := by omega
  have E := Lib.hid e; clear e
  go_enter Try.func36, Try.ntmps36
  go_wp2
  go_ret
  exact ⟨by show Ending.returned (.int .i64 (max (n : Int) (-(n : Int)))) = _; rw [E.out], rfl⟩
set_option maxRecDepth 100000 in
set_option maxHeartbeats 1000000 in
theorem gcd_any (a b : Nat) (w : World) (ha : a ≤ 9223372036854775807) (hb : b ≤ 9223372036854775807) :
    Calls Try.prog 62 #[.int .i64 a, .int .i64 b] w fun e w' => e = .returned (.int .i64 (Nat.gcd a b : Nat)) ∧ Below w.heap.size w w' := by
  have hg0 : Nat.gcd a b ≤ 9223372036854775807 := by
    by_cases h : b = 0
    · subst h; rw [Nat.gcd_zero_right]; exact ha
    · exact Nat.le_trans (Nat.gcd_le_right _ (by omega)) hb
  generalize hg : Nat.gcd a b = g at *
  have HG := Lib.hid hg; clear hg
  go_enter Try.func62, Try.ntmps62
  go_wp2
  go_loopw [0, 1] (fun s5 s6 wr => ∃ x y : Nat, s5 = .int .i64 x ∧ s6 = .int .i64 y ∧ x ≤ 9223372036854775807 ∧ y ≤ 9223372036854775807 ∧ Below w.heap.size w wr ∧ Hid (Nat.gcd x y = g)) (fun _ s6 _ => (intOf s6).toNat)
  case atStart => exact ⟨_, _, rfl, rfl, ha, hb, Below.refl _ _, HG⟩
  case round =>
    obtain ⟨x, y, rfl, rfl, hx, hy, hb, I⟩ := hrel
    by_cases h0 : y = 0
    · subst h0
      have e : x = g := by rw [← I.out, Nat.gcd_zero_right]
      have E := Lib.hid e; clear e
      go_wp2_with (go_at_call 36; refine (baseSize_any _ _ (by omega)).mono ?_; rintro e w' ⟨rfl, rfl⟩)
      go_ret
      exact ⟨by rw [E.out]; rfl, hb⟩
    · have n0 : ((y : Int) != 0) = true := by simp; omega
      have n1 : ((y : Int) == 0) = false := by simp; omega
      have n2 : (1 : Int) ≤ (y : Int) := by omega
      have J : Hid (Nat.gcd y (x % y) = g) := by rw [← I.out]; show Nat.gcd y (x % y) = Nat.gcd x y; rw [Nat.gcd_comm x y, Nat.gcd_rec y x, Nat.gcd_comm]
      have hm : x % y < y := Nat.mod_lt _ (by omega)
      go_wp2
      go_quiet (fail)
      go_wp2
      go_roundw
      case rel => exact ⟨y, x % y, rfl, by go_num, hy, by omega, below_drewN hb _, J⟩
      case measure => simp [intOf]; omega
set_option maxRecDepth 100000 in
set_option maxHeartbeats 1000000 in
theorem isSmall_any (x y : Int) (w : World) :
    Calls Try.prog 49 #[.agg #[.int .i64 x, .int .i64 y]] w fun e w' => e = .returned (.bool (inB x (-1000000000) 1000000000 && inB y 1 1000000000)) ∧ Below w.heap.size w w' := by
  cases h : inB x (-1000000000) 1000000000
  · go_enter Try.func49, Try.ntmps49
    go_wp2_with (go_at_call 12; refine (within_any _ _ _ _).mono ?_; rintro e w' ⟨rfl, rfl⟩; try rw [h])
    go_ret
    exact ⟨rfl, (by repeat (first | exact Below.refl _ _ | refine Below.drew ?_ | refine below_drewN ?_ _ | refine Below.setCell ?_ (by first | omega | (simp; done) | (simp; omega)) _ | refine Below.alloc ?_ (by first | omega | (simp; done) | (simp; omega)) _))⟩
  · go_enter Try.func49, Try.ntmps49
    go_wp2_with (go_at_call 12; refine (within_any _ _ _ _).mono ?_; rintro e w' ⟨rfl, rfl⟩; try rw [h])
    go_ret
    exact ⟨by simp, (by repeat (first | exact Below.refl _ _ | refine Below.drew ?_ | refine below_drewN ?_ _ | refine Below.setCell ?_ (by first | omega | (simp; done) | (simp; omega)) _ | refine Below.alloc ?_ (by first | omega | (simp; done) | (simp; omega)) _))⟩
theorem dirE_eq (a b : Int) : dirE a b = unl (inB a (-1000) 1000 && inB b 1 1000) 2 := by
  unfold dirE
  cases inB a (-1000) 1000 <;> cases inB b 1 1000 <;> rfl
set_option maxRecDepth 100000 in
set_option maxHeartbeats 1000000 in
theorem dirErr_any (a b : Int) (w : World) :
    Calls Try.prog 14 #[.agg #[.int .i64 a, .int .i64 b]] w fun e w' => e = .returned (.int .i64 (dirE a b)) ∧ Below w.heap.size w w' := by
  rw [dirE_eq]
  cases h : inB a (-1000) 1000
  · go_enter Try.func14, Try.ntmps14
    go_wp2_with (go_at_call 12; refine (within_any _ _ _ _).mono ?_; rintro e w' ⟨rfl, rfl⟩; first | rw [h] | skip)
    go_ret
    exact ⟨rfl, (by repeat (first | exact Below.refl _ _ | refine Below.drew ?_ | refine below_drewN ?_ _ | refine Below.setCell ?_ (by first | omega | (simp; done) | (simp; omega)) _ | refine Below.alloc ?_ (by first | omega | (simp; done) | (simp; omega)) _))⟩
  · cases k : inB b 1 1000
    · go_enter Try.func14, Try.ntmps14
      go_wp2_with (go_at_call 12; refine (within_any _ _ _ _).mono ?_; rintro e w' ⟨rfl, rfl⟩; first | rw [h] | rw [k])
      go_ret
      exact ⟨rfl, (by repeat (first | exact Below.refl _ _ | refine Below.drew ?_ | refine below_drewN ?_ _ | refine Below.setCell ?_ (by first | omega | (simp; done) | (simp; omega)) _ | refine Below.alloc ?_ (by first | omega | (simp; done) | (simp; omega)) _))⟩
    · go_enter Try.func14, Try.ntmps14
      go_wp2_with (go_at_call 12; refine (within_any _ _ _ _).mono ?_; rintro e w' ⟨rfl, rfl⟩; first | rw [h] | rw [k])
      go_ret
      exact ⟨rfl, (by repeat (first | exact Below.refl _ _ | refine Below.drew ?_ | refine below_drewN ?_ _ | refine Below.setCell ?_ (by first | omega | (simp; done) | (simp; omega)) _ | refine Below.alloc ?_ (by first | omega | (simp; done) | (simp; omega)) _))⟩
theorem bhD_turn (a b u : Int) : u * u * (a * a + b * b) = bhD a b u := by
  unfold bhD
  generalize a * a + b * b = p
  ac_rfl
end Go.Proofs.Ytkcnhgdcliljeab
