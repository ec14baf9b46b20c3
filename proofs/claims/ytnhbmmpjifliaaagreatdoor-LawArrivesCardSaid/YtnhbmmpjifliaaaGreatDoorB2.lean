/- fractions in lowest terms -/
import Derived.Test.YtnhbmmpjifliaaaGreatDoorA9
namespace Go.Proofs.YtnhbmmpjifliaaaGreatDoor
open Go.RowKit RayM
set_option linter.unusedSimpArgs false
set_option linter.unusedVariables false

set_option maxRecDepth 100000 in
set_option maxHeartbeats 1000000 in
/-- sizeOf -/
theorem sizeOf_any (n : Int) (w : World) (h0 : -9223372036854775808 ≤ n) (h1 : n ≤ 9223372036854775807) :
    Calls Tryz.prog 129 #[.int .i64 n] w fun e w' => e = .returned (.int .u64 (n.natAbs : Int)) ∧ w = w' := by
  by_cases h : n < 0
  · obtain ⟨m, hm⟩ := Int.eq_ofNat_of_zero_le (show 0 ≤ -n by omega)
    have hn : n = -(m : Int) := by omega
    subst hn
    have e : ((-(m : Int)).natAbs : Int) = m := by omega
    have E := Lib.hid e; clear e hm
    have e1 : IntKind.u64.wrap (-(m : Int)) = 18446744073709551616 - m := by rw [IntKind.wrap_u64]; omega
    have e2 : IntKind.u64.wrap (-(18446744073709551616 - (m : Int))) = m := by rw [IntKind.wrap_u64]; omega
    go_enter Tryz.func129, Tryz.ntmps129
    go_wp2
    go_ret
    exact ⟨by rw [E.out]; rfl, rfl⟩
  · have e : (n.natAbs : Int) = n := by omega
    have E := Lib.hid e; clear e
    go_enter Tryz.func129, Tryz.ntmps129
    go_wp2
    go_ret
    exact ⟨by rw [E.out]; rfl, rfl⟩

set_option maxRecDepth 100000 in
set_option maxHeartbeats 1000000 in
/-- commonDivisor -/
theorem commonDivisor_any (a b : Int) (w : World) (a0 : -9223372036854775808 ≤ a) (a1 : a ≤ 9223372036854775807) (b0 : -9223372036854775808 ≤ b) (b1 : b ≤ 9223372036854775807) :
    Calls Tryz.prog 103 #[.int .i64 a, .int .i64 b] w fun e w' => e = .returned (.int .u64 (Nat.gcd a.natAbs b.natAbs : Nat)) ∧ Below w.heap.size w w' := by
  have ha : a.natAbs ≤ 9223372036854775808 := by omega
  have hb : b.natAbs ≤ 9223372036854775808 := by omega
  generalize hg : Nat.gcd a.natAbs b.natAbs = g
  have HG := Lib.hid hg; clear hg
  go_enter Tryz.func103, Tryz.ntmps103
  go_wp2_with (go_at_call 129; refine (sizeOf_any _ _ (by omega) (by omega)).mono ?_; rintro e w' ⟨rfl, rfl⟩)
  go_loopw [5, 6] (fun s5 s6 wr => ∃ x y : Nat, s5 = .int .u64 x ∧ s6 = .int .u64 y ∧ x ≤ 9223372036854775808 ∧ y ≤ 9223372036854775808 ∧ Below w.heap.size w wr ∧ Hid (Nat.gcd x y = g)) (fun _ s6 _ => (intOf s6).toNat)
  case atStart => exact ⟨_, _, rfl, rfl, ha, hb, Below.refl _ _, HG⟩
  case round =>
    obtain ⟨x, y, rfl, rfl, hx, hy, hb, I⟩ := hrel
    by_cases h0 : y = 0
    · subst h0
      have e : x = g := by rw [← I.out, Nat.gcd_zero_right]
      have E := Lib.hid e; clear e
      go_wp2
      go_ret
      exact ⟨by rw [E.out]; rfl, hb⟩
    · have n0 : ((y : Int) != 0) = true := by simp; omega
      have n1 : ((y : Int) == 0) = false := by simp; omega
      have n2 : (1 : Int) ≤ (y : Int) := by omega
      have J : Hid (Nat.gcd y (x % y) = g) := by rw [← I.out]; show Nat.gcd y (x % y) = Nat.gcd x y; rw [Nat.gcd_comm x y, Nat.gcd_rec y x, Nat.gcd_comm]
      have hm : x % y < y := Nat.mod_lt _ (by omega)
      go_wp2
      go_quiet (fail)
      go_wp2
      go_roundw
      case rel => exact ⟨y, x % y, rfl, by go_num, hy, by omega, below_drewN hb _, J⟩
      case measure => simp [intOf]; omega

theorem gcd_facts (a b : Int) (ha : 0 ≤ a) (hb : 1 ≤ b) (hb1 : b ≤ 9223372036854775807) : 1 ≤ (Nat.gcd a.natAbs b.natAbs : Int) ∧ (Nat.gcd a.natAbs b.natAbs : Int) ≤ 9223372036854775807 := by
  have h1 : 0 < Nat.gcd a.natAbs b.natAbs := Nat.gcd_pos_of_pos_right _ (by omega)
  have h2 : Nat.gcd a.natAbs b.natAbs ≤ b.natAbs := Nat.gcd_le_right _ (by omega)
  omega
/-- numbers of a fraction in lowest terms -/
def lowN (a b : Int) : Int := a / (Nat.gcd a.natAbs b.natAbs : Int)
def lowD (a b : Int) : Int := b / (Nat.gcd a.natAbs b.natAbs : Int)

set_option maxRecDepth 100000 in
set_option maxHeartbeats 1000000 in
/-- lowestTerms -/
theorem lowestTerms_any (a b : Int) (w : World) (a0 : 0 ≤ a) (a1 : a ≤ 9223372036854775807) (b0 : 1 ≤ b) (b1 : b ≤ 9223372036854775807) :
    Calls Tryz.prog 60 #[.int .i64 a, .int .i64 b] w fun e w' => e = .returned (.agg #[.int .i64 (lowN a b), .int .i64 (lowD a b)]) ∧ Below w.heap.size w w' := by
  obtain ⟨g0, g1⟩ := gcd_facts a b a0 b0 b1
  have hn : lowN a b = a / (Nat.gcd a.natAbs b.natAbs : Int) := rfl
  have hd : lowD a b = b / (Nat.gcd a.natAbs b.natAbs : Int) := rfl
  have hc := fun w => commonDivisor_any a b w (by omega) (by omega) (by omega) (by omega)
  generalize (Nat.gcd a.natAbs b.natAbs : Int) = g at *
  have q1 := Int.ediv_nonneg a0 (show 0 ≤ g by omega)
  have q2 := Int.ediv_le_self g a0
  have q3 := Int.ediv_nonneg (show 0 ≤ b by omega) (show 0 ≤ g by omega)
  have q4 := Int.ediv_le_self g (show 0 ≤ b by omega)
  have HN := Lib.hid hn; have HD := Lib.hid hd; have HC := Lib.hid hc; clear hn hd hc
  have n1 : (g == 0) = false := by simp; omega
  go_enter Tryz.func60, Tryz.ntmps60
  go_wp2_with fail
  refine (HC.out _).mono ?_
  rintro e w1 ⟨rfl, hb1⟩
  have qw10 : w1.cell? ⟨w.heap.size, 0, none⟩ = some (.int .i64 0) := cell_later hb1 (by simp [go_sem])
  have qw11 : w1.cell? ⟨w.heap.size, 1, none⟩ = some (.int .i64 0) := cell_later hb1 (by simp [go_sem])
  have qw1f0 : w1.frozen? ⟨w.heap.size, 0, none⟩ = false := frozen_after hb1 (v := .int .i64 0) (by simp [go_sem]) (by simp [go_sem])
  have qw1f1 : w1.frozen? ⟨w.heap.size, 1, none⟩ = false := frozen_after hb1 (v := .int .i64 0) (by simp [go_sem]) (by simp [go_sem])
  have HB1 : Hid (Below w.heap.size w w1) := below_after (by repeat (first | exact Below.refl _ _ | refine Below.drew ?_ | refine below_drewN ?_ _ | refine Below.setCell ?_ (by first | omega | (simp; done) | (simp; omega)) _ | refine Below.alloc ?_ (by first | omega | (simp; done) | (simp; omega)) _)) hb1 (by simp)
  clear hb1
  go_wp2
  go_region
  all_goals
    go_wp2
    exact bodyPost_ret (v := .agg #[.int .i64 (a / g), .int .i64 (b / g)]) (by simp [results, Tryz.results60, go_sem, qw10, qw11]) rfl ⟨by rw [HN.out, HD.out], (by repeat (first | exact HB1.out | refine Below.drew ?_ | refine Below.setCell ?_ (by first | omega | (simp; done) | (simp; omega)) _))⟩

def csE (a b : Int) : Int := fst [unl (inB a 500 10000) 2, unl (inB b 500 10000) 2, unl (decide (a < b)) 12]
theorem cs_facts (a b : Int) (h : csE a b = 0) : 500 ≤ a ∧ a ≤ 10000 ∧ 500 ≤ b ∧ b ≤ 10000 ∧ a < b := by
  unfold csE at h
  rw [fst_zero] at h
  simp only [List.mem_cons, List.not_mem_nil, or_false, forall_eq_or_imp, forall_eq, unl_inB _ _ _ _ (show (2 : Int) ≠ 0 by decide)] at h
  obtain ⟨⟨p, q⟩, ⟨r, s⟩, t⟩ := h
  refine ⟨p, q, r, s, ?_⟩
  by_cases h2 : a < b
  · exact h2
  · rw [decide_eq_false h2] at t; simp [unl] at t

end Go.Proofs.YtnhbmmpjifliaaaGreatDoor
