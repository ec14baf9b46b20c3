/- a quarter of a period: maths, and what is out of range -/
import Derived.Test.YtoieemgdkpnbfaaFl13
import Derived.Test.YtoieemgdkpnbfaaFl14
namespace Go.Proofs.Ytoieemgdkpnbfaa
open Go.RowKit RayM
set_option linter.unusedSimpArgs false
set_option linter.unusedVariables false
/-- the opposite of a whole sample -/
theorem neg_all : (List.range 4200).all (fun n => decide (Ieee.single.read (Op.negFloat .f32 (fs (n : Int))) = (Ieee.single.read (fs (n : Int))).opposite) && decide (Ieee.single.read (Op.negFloat .f32 (fs (-(n : Int)))) = (Ieee.single.read (fs (-(n : Int)))).opposite)) = true := by decide +kernel
theorem neg_read (n : Int) (h : n.natAbs < 4200) : Ieee.single.read (Op.negFloat .f32 (fs n)) = (Ieee.single.read (fs n)).opposite := by
  have := List.all_eq_true.1 neg_all n.natAbs (by simpa using h)
  simp only [Bool.and_eq_true, decide_eq_true_eq] at this
  by_cases h0 : 0 ≤ n
  · have e : ((n.natAbs : Nat) : Int) = n := by omega
    rw [e] at this; exact this.1
  · have e : -((n.natAbs : Nat) : Int) = n := by omega
    rw [e] at this; exact this.2
theorem neq_neg (b : Int) (hb : b.natAbs < 4200) : (FloatKind.f32.format.order (fs (-b)) (Op.negFloat .f32 (fs b)) != some .eq) = false := by
  obtain ⟨i, ei⟩ := Fl.read_fl Fl.good32 (-b) (by show (-b).natAbs < 2 ^ 24; omega)
  obtain ⟨j, ej⟩ := Fl.read_fl Fl.good32 b (by show b.natAbs < 2 ^ 24; omega)
  show (Ieee.single.order _ _ != _) = false
  unfold Ieee.Format.order
  have ei' : Ieee.single.read (fs (-b)) = .number (decide (-b < 0)) ((-b).natAbs * 2 ^ i) (-(i : Int)) := ei
  have ej' : Ieee.single.read (fs b) = .number (decide (b < 0)) (b.natAbs * 2 ^ j) (-(j : Int)) := ej
  rw [neg_read b hb, ei', ej']
  simp only [Ieee.Datum.opposite, Ieee.Datum.order]
  rw [Fl.signed_whole, Fl.signed_neg]
  have hbase : min (-(i : Int)) (-(j : Int)) = -((max i j : Nat) : Int) := by omega
  rw [hbase]
  have k1 : i + (-(i : Int) - -((max i j : Nat) : Int)).toNat = max i j := by omega
  have k2 : j + (-(j : Int) - -((max i j : Nat) : Int)).toNat = max i j := by omega
  rw [k1, k2, Int.compare_eq_eq.2 rfl]
  rfl
theorem neq_same (b : Int) (hb : b.natAbs < 8192) : (FloatKind.f32.format.order (fs b) (fs b) != some .eq) = false := by
  have := eq_fs b b (Nat.lt_trans hb (by decide)) (Nat.lt_trans hb (by decide))
  rw [bne, this]; simp
/-- the samples of a trace of the period four -/
def four (a b : Int) (i : Nat) : Int := if i % 4 = 0 then a else if i % 4 = 1 then b else if i % 4 = 2 then -a else -b
theorem four_two (a b : Int) (i : Nat) : four a b (i + 2) = -four a b i := by
  unfold four
  have h : i % 4 = 0 ∨ i % 4 = 1 ∨ i % 4 = 2 ∨ i % 4 = 3 := by omega
  rcases h with h | h | h | h
  · rw [show (i + 2) % 4 = 2 by omega, h]; simp
  · rw [show (i + 2) % 4 = 3 by omega, h]; simp
  · rw [show (i + 2) % 4 = 0 by omega, h]; simp
  · rw [show (i + 2) % 4 = 1 by omega, h]; simp
theorem four_in (a b : Int) (i : Nat) (ha : -2047 ≤ a ∧ a ≤ 2047) (hb : -2047 ≤ b ∧ b ≤ 2047) : -2047 ≤ four a b i ∧ four a b i ≤ 2047 := by
  unfold four; split
  · omega
  · split
    · omega
    · split <;> omega
theorem four_sq (a b : Int) (i : Nat) : four a b i * four a b i + four a b (i + 1) * four a b (i + 1) = a * a + b * b := by
  unfold four
  have h : i % 4 = 0 ∨ i % 4 = 1 ∨ i % 4 = 2 ∨ i % 4 = 3 := by omega
  rcases h with h | h | h | h
  · rw [show (i + 1) % 4 = 1 by omega, h]; simp
  · rw [show (i + 1) % 4 = 2 by omega, h]; simp [Int.neg_mul_neg, Int.add_comm]
  · rw [show (i + 1) % 4 = 3 by omega, h]; simp [Int.neg_mul_neg]
  · rw [show (i + 1) % 4 = 0 by omega, h]; simp [Int.neg_mul_neg, Int.add_comm]
theorem dbl (x : Int) : (x - -x) = 2 * x := by omega
theorem four_an (a b : Int) (i : Nat) : anv (four a b) i = .complex .f32 (fs (2 * four a b i)) (fs (2 * four a b (i + 1))) := by
  unfold anv
  rw [four_two, show i + 3 = (i + 1) + 2 by omega, four_two, dbl, dbl]
theorem four_squares (a b : Int) (i : Nat) : sqA (four a b) i = 4 * (a * a + b * b) := by
  unfold sqA
  rw [four_two, show i + 3 = (i + 1) + 2 by omega, four_two, dbl, dbl, ← four_sq a b i]
  have e : ∀ x : Int, 2 * x * (2 * x) = 4 * (x * x) := fun x => by rw [Int.mul_assoc, Int.mul_left_comm x 2 x, ← Int.mul_assoc]; rfl
  rw [e, e, Int.mul_add]
/-- the trace as far as it is made -/
def fourS (a b : Int) (k i : Nat) : Int := if i < k then four a b i else 0
theorem fourS_zero (a b : Int) : fourS a b 0 = fun _ => 0 := by funext i; simp [fourS]
theorem fourS_step (a b : Int) (k : Nat) (v : Value) (h : v = .float .f32 (fs (four a b k))) : ∀ i, i < 64 → upd (fv (fourS a b k)) k v i = fv (fourS a b (k + 1)) i := fun i _ => by
  unfold upd fv fourS
  by_cases e : i = k
  · subst e; rw [if_pos rfl, if_pos (by omega), h]
  · rw [if_neg e]
    by_cases e2 : i < k
    · rw [if_pos e2, if_pos (by omega)]
    · rw [if_neg e2, if_neg (by omega)]
theorem fourS_all (a b : Int) : ∀ i, i < 64 → fv (fourS a b 64) i = fv (four a b) i := fun i hi => by unfold fv fourS; rw [if_pos hi]
theorem bw_true (n l m : Int) (h : l ≤ n ∧ n ≤ m) (w : World) : Calls Try.prog 17 #[.int .i64 n, .int .i64 l, .int .i64 m] w fun e w' => e = .returned (.bool true) ∧ w = w' := by
  have := bwithin_any n l m w
  rwa [(inB_iff _ _ _).2 h] at this
theorem bw_false (n l m : Int) (h : ¬ (l ≤ n ∧ n ≤ m)) (w : World) : Calls Try.prog 17 #[.int .i64 n, .int .i64 l, .int .i64 m] w fun e w' => e = .returned (.bool false) ∧ w = w' := by
  have := bwithin_any n l m w
  have hh : inB n l m = false := by
    by_cases hx : inB n l m = true
    · exact absurd ((inB_iff _ _ _).1 hx) h
    · simpa using hx
  rwa [hh] at this
set_option maxRecDepth 100000 in
set_option maxHeartbeats 1000000 in
theorem tq_out (a c : Int) (w : World) (h : ¬ ((-2047 ≤ a ∧ a ≤ 2047) ∧ (-2047 ≤ c ∧ c ≤ 2047))) :
    Calls Try.prog 7 #[.int .i64 a, .int .i64 c] w fun e w' => e = .returned (.bool true) ∧ Below w.heap.size w w' := by
  by_cases ha : -2047 ≤ a ∧ a ≤ 2047
  · have HA := Lib.hid (fun w => bw_true a (-2047) 2047 ha w)
    have HB := Lib.hid (fun w => bw_false c (-2047) 2047 (fun hc => h ⟨ha, hc⟩) w)
    clear ha h
    go_enter Try.func7, Try.ntmps7
    go_wp2_with (first
      | (go_at_call 12; (with_reducible refine (awake_any _).mono ?_); rintro e w1 ⟨rfl, hb1⟩; have b1 : Hid (Below w.heap.size w w1) := Lib.hid hb1; have s1' := hb1.size; clear hb1)
      | (go_at_call 17; (with_reducible refine (HA.out _).mono ?_); rintro e w' ⟨rfl, rfl⟩)
      | (go_at_call 17; (with_reducible refine (HB.out _).mono ?_); rintro e w' ⟨rfl, rfl⟩))
    go_ret
    exact ⟨rfl, b1.out⟩
  · have HA := Lib.hid (fun w => bw_false a (-2047) 2047 ha w)
    have HB := HA
    clear ha h
    go_enter Try.func7, Try.ntmps7
    go_wp2_with (first
      | (go_at_call 12; (with_reducible refine (awake_any _).mono ?_); rintro e w1 ⟨rfl, hb1⟩; have b1 : Hid (Below w.heap.size w w1) := Lib.hid hb1; have s1' := hb1.size; clear hb1)
      | (go_at_call 17; (with_reducible refine (HA.out _).mono ?_); rintro e w' ⟨rfl, rfl⟩)
      | (go_at_call 17; (with_reducible refine (HB.out _).mono ?_); rintro e w' ⟨rfl, rfl⟩))
    go_ret
    exact ⟨rfl, b1.out⟩
end Go.Proofs.Ytoieemgdkpnbfaa
