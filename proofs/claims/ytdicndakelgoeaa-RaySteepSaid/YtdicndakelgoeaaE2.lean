/- directions behind the plane: the reference -/
import Derived.Test.YtdicndakelgoeaaE1
import Derived.Test.YtdicndakelgoeaaC1
namespace Go.Proofs.Ytdicndakelgoeaa
open Go.RowKit RayM
set_option linter.unusedSimpArgs false
set_option linter.unusedVariables false

set_option maxRecDepth 100000 in
set_option maxHeartbeats 1000000 in
theorem baseSize_any (n : Nat) (w : World) (h1 : n ≤ 9223372036854775807) :
    Calls Try.prog 132 #[.int .i64 n] w fun e w' => e = .returned (.int .i64 n) ∧ w = w' := by
  have e : max (n : Int) (-(n : Int)) = n := by omega
  have E := Lib.hid e; clear e
  go_enter Try.func132, Try.ntmps132
  go_wp2
  go_ret
  exact ⟨by show Ending.returned (.int .i64 (max (n : Int) (-(n : Int)))) = _; rw [E.out], rfl⟩
set_option maxRecDepth 100000 in
set_option maxHeartbeats 1000000 in
theorem gcd_any (a b : Nat) (w : World) (ha : a ≤ 9223372036854775807) (hb : b ≤ 9223372036854775807) :
    Calls Try.prog 163 #[.int .i64 a, .int .i64 b] w fun e w' => e = .returned (.int .i64 (Nat.gcd a b : Nat)) ∧ Below w.heap.size w w' := by
  have hg0 : Nat.gcd a b ≤ 9223372036854775807 := by
    by_cases h : b = 0
    · subst h; rw [Nat.gcd_zero_right]; exact ha
    · exact Nat.le_trans (Nat.gcd_le_right _ (by omega)) hb
  generalize hg : Nat.gcd a b = g at *
  have HG := Lib.hid hg; clear hg
  go_enter Try.func163, Try.ntmps163
  go_wp2
  go_loopw [0, 1] (fun s5 s6 wr => ∃ x y : Nat, s5 = .int .i64 x ∧ s6 = .int .i64 y ∧ x ≤ 9223372036854775807 ∧ y ≤ 9223372036854775807 ∧ Below w.heap.size w wr ∧ Hid (Nat.gcd x y = g)) (fun _ s6 _ => (intOf s6).toNat)
  case atStart => exact ⟨_, _, rfl, rfl, ha, hb, Below.refl _ _, HG⟩
  case round =>
    obtain ⟨x, y, rfl, rfl, hx, hy, hb, I⟩ := hrel
    by_cases h0 : y = 0
    · subst h0
      have e : x = g := by rw [← I.out, Nat.gcd_zero_right]
      have E := Lib.hid e; clear e
      go_wp2_with (go_at_call 132; refine (baseSize_any _ _ (by omega)).mono ?_; rintro e w' ⟨rfl, rfl⟩)
      go_ret
      exact ⟨by rw [E.out]; rfl, hb⟩
    · have n0 : ((y : Int) != 0) = true := by simp; omega
      have n1 : ((y : Int) == 0) = false := by simp; omega
      have n2 : (1 : Int) ≤ (y : Int) := by omega
      have J : Hid (Nat.gcd y (x % y) = g) := by rw [← I.out]; show Nat.gcd y (x % y) = Nat.gcd x y; rw [Nat.gcd_comm x y, Nat.gcd_rec y x, Nat.gcd_comm]
      have hm : x % y < y := Nat.mod_lt _ (by omega)
      go_wp2
      go_quiet (fail)
      go_wp2
      go_roundw
      case rel => exact ⟨y, x % y, rfl, by go_num, hy, by omega, below_drewN hb _, J⟩
      case measure => simp [intOf]; omega
set_option maxRecDepth 100000 in
set_option maxHeartbeats 1000000 in
/-- Lowest -/
theorem lowest_any (a b : Int) (w : World) (a0 : 0 ≤ a) (a1 : a ≤ 9223372036854775807) (b0 : 1 ≤ b) (b1 : b ≤ 9223372036854775807) :
    Calls Try.prog 126 #[.int .i64 a, .int .i64 b] w fun e w' => e = .returned (.agg #[.int .i64 (lowN a b), .int .i64 (lowD a b)]) ∧ Below w.heap.size w w' := by
  obtain ⟨g0, g1⟩ := gcd_facts a b a0 b0 b1
  have hn : lowN a b = a / (Nat.gcd a.natAbs b.natAbs : Int) := rfl
  have hd : lowD a b = b / (Nat.gcd a.natAbs b.natAbs : Int) := rfl
  have hc := fun w => gcd_any a.natAbs b.natAbs w (by omega) (by omega)
  have ea : (a.natAbs : Int) = a := by omega
  have eb : (b.natAbs : Int) = b := by omega
  rw [ea, eb] at hc
  generalize (Nat.gcd a.natAbs b.natAbs : Int) = g at *
  have q1 := Int.ediv_nonneg a0 (show 0 ≤ g by omega)
  have q2 := Int.ediv_le_self g a0
  have q3 := Int.ediv_nonneg (show 0 ≤ b by omega) (show 0 ≤ g by omega)
  have q4 := Int.ediv_le_self g (show 0 ≤ b by omega)
  have HN := Lib.hid hn; have HD := Lib.hid hd; have HC := Lib.hid hc; clear hn hd hc ea eb
  have n1 : (g == 0) = false := by simp; omega
  go_enter Try.func126, Try.ntmps126
  go_wp2_with fail
  refine (HC.out _).mono ?_
  rintro e w1 ⟨rfl, hb1⟩
  have qw10 : w1.cell? ⟨w.heap.size, 0, none⟩ = some (.int .i64 0) := cell_later hb1 (by simp [go_sem])
  have qw11 : w1.cell? ⟨w.heap.size, 1, none⟩ = some (.int .i64 0) := cell_later hb1 (by simp [go_sem])
  have qw1f0 : w1.frozen? ⟨w.heap.size, 0, none⟩ = false := frozen_after hb1 (v := .int .i64 0) (by simp [go_sem]) (by simp [go_sem])
  have qw1f1 : w1.frozen? ⟨w.heap.size, 1, none⟩ = false := frozen_after hb1 (v := .int .i64 0) (by simp [go_sem]) (by simp [go_sem])
  have zz10 := World.block_lt_of_cell? _ _ qw10
  dsimp only at zz10
  have HB1 : Hid (Below w.heap.size w w1) := below_after (by repeat (first | exact Below.refl _ _ | refine Below.drew ?_ | refine below_drewN ?_ _ | refine Below.setCell ?_ (by first | omega | (simp; done) | (simp; omega)) _ | refine Below.alloc ?_ (by first | omega | (simp; done) | (simp; omega)) _)) hb1 (by simp)
  clear hb1
  go_wp2
  go_region
  all_goals
    go_wp2
    exact bodyPost_ret (v := .agg #[.int .i64 (a / g), .int .i64 (b / g)]) (by simp [results, Try.results126, go_sem, qw10, qw11]) rfl ⟨by rw [HN.out, HD.out], (by repeat (first | exact HB1.out | refine Below.drew ?_ | refine Below.setCell ?_ (by first | omega | (simp; done) | (simp; omega)) _))⟩
set_option maxRecDepth 100000 in
set_option maxHeartbeats 1000000 in
theorem isSmall_any (x y : Int) (w : World) :
    Calls Try.prog 127 #[.agg #[.int .i64 x, .int .i64 y]] w fun e w' => e = .returned (.bool (inB x (-1000000000) 1000000000 && inB y 1 1000000000)) ∧ Below w.heap.size w w' := by
  cases h : inB x (-1000000000) 1000000000
  · go_enter Try.func127, Try.ntmps127
    go_wp2_with (go_at_call 43; refine (within_any _ _ _ _).mono ?_; rintro e w' ⟨rfl, rfl⟩; try rw [h])
    go_ret
    exact ⟨rfl, (by repeat (first | exact Below.refl _ _ | refine Below.drew ?_ | refine below_drewN ?_ _ | refine Below.setCell ?_ (by first | omega | (simp; done) | (simp; omega)) _ | refine Below.alloc ?_ (by first | omega | (simp; done) | (simp; omega)) _))⟩
  · go_enter Try.func127, Try.ntmps127
    go_wp2_with (go_at_call 43; refine (within_any _ _ _ _).mono ?_; rintro e w' ⟨rfl, rfl⟩; try rw [h])
    go_ret
    exact ⟨by simp, (by repeat (first | exact Below.refl _ _ | refine Below.drew ?_ | refine below_drewN ?_ _ | refine Below.setCell ?_ (by first | omega | (simp; done) | (simp; omega)) _ | refine Below.alloc ?_ (by first | omega | (simp; done) | (simp; omega)) _))⟩
theorem dirE_eq (a b : Int) : dirE a b = unl (inB a (-1000) 1000 && inB b 1 1000) 2 := by
  unfold dirE
  cases inB a (-1000) 1000 <;> cases inB b 1 1000 <;> rfl
set_option maxRecDepth 100000 in
set_option maxHeartbeats 1000000 in
theorem dirErr_any (a b : Int) (w : World) :
    Calls Try.prog 71 #[.agg #[.int .i64 a, .int .i64 b]] w fun e w' => e = .returned (.int .i64 (dirE a b)) ∧ Below w.heap.size w w' := by
  rw [dirE_eq]
  cases h : inB a (-1000) 1000
  · go_enter Try.func71, Try.ntmps71
    go_wp2_with (go_at_call 43; refine (within_any _ _ _ _).mono ?_; rintro e w' ⟨rfl, rfl⟩; first | rw [h] | skip)
    go_ret
    exact ⟨rfl, (by repeat (first | exact Below.refl _ _ | refine Below.drew ?_ | refine below_drewN ?_ _ | refine Below.setCell ?_ (by first | omega | (simp; done) | (simp; omega)) _ | refine Below.alloc ?_ (by first | omega | (simp; done) | (simp; omega)) _))⟩
  · cases k : inB b 1 1000
    · go_enter Try.func71, Try.ntmps71
      go_wp2_with (go_at_call 43; refine (within_any _ _ _ _).mono ?_; rintro e w' ⟨rfl, rfl⟩; first | rw [h] | rw [k])
      go_ret
      exact ⟨rfl, (by repeat (first | exact Below.refl _ _ | refine Below.drew ?_ | refine below_drewN ?_ _ | refine Below.setCell ?_ (by first | omega | (simp; done) | (simp; omega)) _ | refine Below.alloc ?_ (by first | omega | (simp; done) | (simp; omega)) _))⟩
    · go_enter Try.func71, Try.ntmps71
      go_wp2_with (go_at_call 43; refine (within_any _ _ _ _).mono ?_; rintro e w' ⟨rfl, rfl⟩; first | rw [h] | rw [k])
      go_ret
      exact ⟨rfl, (by repeat (first | exact Below.refl _ _ | refine Below.drew ?_ | refine below_drewN ?_ _ | refine Below.setCell ?_ (by first | omega | (simp; done) | (simp; omega)) _ | refine Below.alloc ?_ (by first | omega | (simp; done) | (simp; omega)) _))⟩
theorem bhD_turn (a b u : Int) : u * u * (a * a + b * b) = bhD a b u := by
  unfold bhD
  generalize a * a + b * b = p
  ac_rfl
set_option maxRecDepth 100000 in
set_option maxHeartbeats 1000000 in
theorem refPasses_any (a b u v : Int) (w : World) (o : AnOk a b u v) :
    Calls Try.prog 73 #[.agg #[.int .i64 a, .int .i64 b], .int .i64 u, .int .i64 v] w fun e w' => e = .returned (.bool (decide (bhN a v ≤ bhD a b u))) ∧ Below w.heap.size w w' := by
  have f := an_f o
  have ht := bhD_turn a b u
  have f13 : 1 ≤ u * u * (a * a + b * b) ∧ u * u * (a * a + b * b) ≤ 200000000000000 := by rw [ht]; exact f.f6
  rw [← ht]
  show Calls Try.prog 73 #[.agg #[.int .i64 a, .int .i64 b], .int .i64 u, .int .i64 v] w fun e w' => e = .returned (.bool (decide (a * a * v * v ≤ u * u * (a * a + b * b)))) ∧ Below w.heap.size w w'
  obtain ⟨⟨f1, f2⟩, ⟨f3, f4⟩, ⟨f5, f6⟩, ⟨f7, f8⟩, _, _, ⟨g1, g2⟩⟩ := f
  obtain ⟨g3, g4⟩ := f13
  clear o ht
  by_cases hk : a * a * v * v ≤ u * u * (a * a + b * b)
  · go_enter Try.func73, Try.ntmps73
    go_wp2
    go_ret
    exact ⟨by first | (simp [hk]; done) | (rw [show decide (a * a * v * v ≤ u * u * (a * a + b * b)) = _ from by first | exact decide_eq_true hk | exact decide_eq_false hk]; rfl), (by repeat (first | exact Below.refl _ _ | refine Below.drew ?_ | refine below_drewN ?_ _ | refine Below.setCell ?_ (by first | omega | (simp; done) | (simp; omega)) _ | refine Below.alloc ?_ (by first | omega | (simp; done) | (simp; omega)) _))⟩
  · go_enter Try.func73, Try.ntmps73
    go_wp2
    go_ret
    exact ⟨by first | (simp [hk]; done) | (rw [show decide (a * a * v * v ≤ u * u * (a * a + b * b)) = _ from by first | exact decide_eq_true hk | exact decide_eq_false hk]; rfl), (by repeat (first | exact Below.refl _ _ | refine Below.drew ?_ | refine below_drewN ?_ _ | refine Below.setCell ?_ (by first | omega | (simp; done) | (simp; omega)) _ | refine Below.alloc ?_ (by first | omega | (simp; done) | (simp; omega)) _))⟩
set_option maxRecDepth 100000 in
set_option maxHeartbeats 1000000 in
theorem refCritical_ok (a b : Int) (w : World) (h : csE a b = 0) :
    Calls Try.prog 70 #[.int .i64 a, .int .i64 b] w fun e w' => e = .returned (.tuple #[.agg #[.int .i64 (lowN (a * a) (b * b)), .int .i64 (lowD (a * a) (b * b))], .int .i64 0]) ∧ Below w.heap.size w w' := by
  obtain ⟨p, q, r, s, t⟩ := cs_facts a b h
  have m1 := mul_le a a 10000 10000 (by omega) (by omega) q q
  have m2 := mul_le b b 10000 10000 (by omega) (by omega) s s
  have m3 := Int.mul_pos (show 0 < a by omega) (show 0 < a by omega)
  have m4 := Int.mul_pos (show 0 < b by omega) (show 0 < b by omega)
  have HL := Lib.hid (fun w => lowest_any (a * a) (b * b) w (by omega) (by omega) (by omega) (by omega))
  generalize lowN (a * a) (b * b) = x at *
  generalize lowD (a * a) (b * b) = y at *
  clear h p q r s
  go_enter Try.func70, Try.ntmps70
  go_wp2_with fail
  refine (HL.out _).mono ?_
  rintro e w1 ⟨rfl, hb1⟩
  have qw10 : w1.cell? ⟨w.heap.size, 0, none⟩ = some (.int .i64 0) := cell_later hb1 (by simp [go_sem])
  have qw11 : w1.cell? ⟨w.heap.size, 1, none⟩ = some (.int .i64 0) := cell_later hb1 (by simp [go_sem])
  have qw1f0 : w1.frozen? ⟨w.heap.size, 0, none⟩ = false := frozen_after hb1 (v := .int .i64 0) (by simp [go_sem]) (by simp [go_sem])
  have qw1f1 : w1.frozen? ⟨w.heap.size, 1, none⟩ = false := frozen_after hb1 (v := .int .i64 0) (by simp [go_sem]) (by simp [go_sem])
  have zz10 := World.block_lt_of_cell? _ _ qw10
  dsimp only at zz10
  have HB1 : Hid (Below w.heap.size w w1) := below_after (by repeat (first | exact Below.refl _ _ | refine Below.drew ?_ | refine below_drewN ?_ _ | refine Below.setCell ?_ (by first | omega | (simp; done) | (simp; omega)) _ | refine Below.alloc ?_ (by first | omega | (simp; done) | (simp; omega)) _)) hb1 (by simp)
  clear hb1
  go_wp2
  exact bodyPost_ret (v := .tuple #[.agg #[.int .i64 x, .int .i64 y], .int .i64 0]) (by simp [results, Try.results70, go_sem, *]) rfl ⟨rfl, (by (repeat (first | (with_reducible exact HB1.out) | (with_reducible refine Below.setCell ?_ ?_ _) | (with_reducible refine below_alloc_top ?_ _) | (with_reducible refine Below.drew ?_))); all_goals (first | omega | (simp; done) | (simp; omega)))⟩
set_option maxRecDepth 100000 in
set_option maxHeartbeats 1000000 in
theorem refCritical_none (a b : Int) (w : World) (h : b ≤ a) :
    Calls Try.prog 70 #[.int .i64 a, .int .i64 b] w fun e w' => e = .returned (.tuple #[.agg #[.int .i64 0, .int .i64 0], .int .i64 12]) ∧ Below w.heap.size w w' := by
  go_enter Try.func70, Try.ntmps70
  go_wp2
  exact bodyPost_ret (v := .tuple #[.agg #[.int .i64 0, .int .i64 0], .int .i64 12]) (by simp [results, Try.results70, go_sem]) rfl ⟨rfl, (by repeat (first | exact Below.refl _ _ | refine Below.drew ?_ | refine below_drewN ?_ _ | refine Below.setCell ?_ (by first | omega | (simp; done) | (simp; omega)) _ | refine Below.alloc ?_ (by first | omega | (simp; done) | (simp; omega)) _))⟩
set_option maxRecDepth 100000 in
set_option maxHeartbeats 1000000 in
theorem refBehindSq_large (a b u v : Int) (o : AnOk a b u v) (hk : bhN a v ≤ bhD a b u) (hs1 : (inB (lowN (bhN a v) (bhD a b u)) (-1000000000) 1000000000 && inB (lowD (bhN a v) (bhD a b u)) 1 1000000000) = false) (w : World) :
    Calls Try.prog 72 #[.agg #[.int .i64 a, .int .i64 b], .int .i64 u, .int .i64 v] w fun e w' => e = .returned (.tuple #[.agg #[.int .i64 0, .int .i64 0], .int .i64 8]) ∧ Below w.heap.size w w' := by
  have hp := fun w => refPasses_any a b u v w o
  rw [decide_eq_true hk] at hp
  have HP := Lib.hid hp
  have nf := an_f o
  have ht := bhD_turn a b u
  have f13 : 1 ≤ u * u * (a * a + b * b) ∧ u * u * (a * a + b * b) ≤ 200000000000000 := by rw [ht]; exact nf.f6
  have hl := fun w => lowest_any (bhN a v) (bhD a b u) w nf.f4.1 (by have := nf.f4.2; unfold bhN; omega) nf.f6.1 (by have := nf.f6.2; unfold bhD; omega)
  have hs := fun w => isSmall_any (lowN (bhN a v) (bhD a b u)) (lowD (bhN a v) (bhD a b u)) w
  generalize lowN (bhN a v) (bhD a b u) = x at *
  generalize lowD (bhN a v) (bhD a b u) = y at *
  rw [← ht] at hl
  unfold bhN at hl
  rw [hs1] at hs
  have HL := Lib.hid hl
  have HS := Lib.hid hs
  obtain ⟨⟨f1, f2⟩, ⟨f3, f4⟩, ⟨f5, f6⟩, ⟨f7, f8⟩, _, _, ⟨g1, g2⟩⟩ := nf
  obtain ⟨g3, g4⟩ := f13
  clear hp o hk ht hl hs
  go_enter Try.func72, Try.ntmps72
  go_wp2_with fail
  refine (HP.out _).mono ?_
  rintro e w1 ⟨rfl, hb1⟩
  have qw10 : w1.cell? ⟨w.heap.size, 0, none⟩ = some (.int .i64 a) := cell_later hb1 (by simp [go_sem])
  have qw11 : w1.cell? ⟨w.heap.size, 1, none⟩ = some (.int .i64 b) := cell_later hb1 (by simp [go_sem])
  have qw12 : w1.cell? ⟨w.heap.size + 1, 0, none⟩ = some (.int .i64 0) := cell_later hb1 (by simp [go_sem])
  have qw13 : w1.cell? ⟨w.heap.size + 1, 1, none⟩ = some (.int .i64 0) := cell_later hb1 (by simp [go_sem])
  have qw1f0 : w1.frozen? ⟨w.heap.size + 1, 0, none⟩ = false := frozen_after hb1 (v := .int .i64 0) (by simp [go_sem]) (by simp [go_sem])
  have qw1f1 : w1.frozen? ⟨w.heap.size + 1, 1, none⟩ = false := frozen_after hb1 (v := .int .i64 0) (by simp [go_sem]) (by simp [go_sem])
  have zz10 := World.block_lt_of_cell? _ _ qw10
  dsimp only at zz10
  have zz12 := World.block_lt_of_cell? _ _ qw12
  dsimp only at zz12
  have HB1 : Hid (Below w.heap.size w w1) := below_after (by repeat (first | exact Below.refl _ _ | refine Below.drew ?_ | refine below_drewN ?_ _ | refine Below.setCell ?_ (by first | omega | (simp; done) | (simp; omega)) _ | refine Below.alloc ?_ (by first | omega | (simp; done) | (simp; omega)) _)) hb1 (by simp; omega)
  clear hb1
  go_wp2_with fail
  refine (HL.out _).mono ?_
  rintro e w2 ⟨rfl, hb2⟩
  have qw20 : w2.cell? ⟨w.heap.size, 0, none⟩ = some (.int .i64 a) := cell_later hb2 (by simp [go_sem, World.cell?_alloc_past, World.frozen?_alloc_past, *])
  have qw21 : w2.cell? ⟨w.heap.size, 1, none⟩ = some (.int .i64 b) := cell_later hb2 (by simp [go_sem, World.cell?_alloc_past, World.frozen?_alloc_past, *])
  have qw22 : w2.cell? ⟨w.heap.size + 1, 0, none⟩ = some (.int .i64 0) := cell_later hb2 (by simp [go_sem, World.cell?_alloc_past, World.frozen?_alloc_past, *])
  have qw23 : w2.cell? ⟨w.heap.size + 1, 1, none⟩ = some (.int .i64 0) := cell_later hb2 (by simp [go_sem, World.cell?_alloc_past, World.frozen?_alloc_past, *])
  have qw2f0 : w2.frozen? ⟨w.heap.size + 1, 0, none⟩ = false := frozen_after hb2 (v := .int .i64 0) (by simp [go_sem, World.cell?_alloc_past, World.frozen?_alloc_past, *]) (by simp [go_sem, World.cell?_alloc_past, World.frozen?_alloc_past, *])
  have qw2f1 : w2.frozen? ⟨w.heap.size + 1, 1, none⟩ = false := frozen_after hb2 (v := .int .i64 0) (by simp [go_sem, World.cell?_alloc_past, World.frozen?_alloc_past, *]) (by simp [go_sem, World.cell?_alloc_past, World.frozen?_alloc_past, *])
  have zz20 := World.block_lt_of_cell? _ _ qw20
  dsimp only at zz20
  have zz22 := World.block_lt_of_cell? _ _ qw22
  dsimp only at zz22
  have HB2 : Hid (Below w.heap.size w w2) := below_then HB1.out hb2
  clear hb2
  go_wp2_with fail
  refine (HS.out _).mono ?_
  rintro e w3 ⟨rfl, hb3⟩
  have qw30 : w3.cell? ⟨w.heap.size, 0, none⟩ = some (.int .i64 a) := cell_later hb3 (by simp [go_sem, World.cell?_alloc_past, World.frozen?_alloc_past, *])
  have qw31 : w3.cell? ⟨w.heap.size, 1, none⟩ = some (.int .i64 b) := cell_later hb3 (by simp [go_sem, World.cell?_alloc_past, World.frozen?_alloc_past, *])
  have qw32 : w3.cell? ⟨w.heap.size + 1, 0, none⟩ = some (.int .i64 0) := cell_later hb3 (by simp [go_sem, World.cell?_alloc_past, World.frozen?_alloc_past, *])
  have qw33 : w3.cell? ⟨w.heap.size + 1, 1, none⟩ = some (.int .i64 0) := cell_later hb3 (by simp [go_sem, World.cell?_alloc_past, World.frozen?_alloc_past, *])
  have qw34 : w3.cell? ⟨w2.heap.size, 0, none⟩ = some (.int .i64 x) := cell_later hb3 (by simp [go_sem, World.cell?_alloc_past, World.frozen?_alloc_past, *])
  have qw35 : w3.cell? ⟨w2.heap.size, 1, none⟩ = some (.int .i64 y) := cell_later hb3 (by simp [go_sem, World.cell?_alloc_past, World.frozen?_alloc_past, *])
  have qw3f0 : w3.frozen? ⟨w.heap.size + 1, 0, none⟩ = false := frozen_after hb3 (v := .int .i64 0) (by simp [go_sem, World.cell?_alloc_past, World.frozen?_alloc_past, *]) (by simp [go_sem, World.cell?_alloc_past, World.frozen?_alloc_past, *])
  have qw3f1 : w3.frozen? ⟨w.heap.size + 1, 1, none⟩ = false := frozen_after hb3 (v := .int .i64 0) (by simp [go_sem, World.cell?_alloc_past, World.frozen?_alloc_past, *]) (by simp [go_sem, World.cell?_alloc_past, World.frozen?_alloc_past, *])
  have zz30 := World.block_lt_of_cell? _ _ qw30
  dsimp only at zz30
  have zz32 := World.block_lt_of_cell? _ _ qw32
  dsimp only at zz32
  have zz34 := World.block_lt_of_cell? _ _ qw34
  dsimp only at zz34
  have HB3 : Hid (Below w.heap.size w w3) := below_then (by (repeat (first | (with_reducible exact HB2.out) | (with_reducible refine Below.setCell ?_ ?_ _) | (with_reducible refine below_alloc_top ?_ _))); all_goals (first | omega | (simp; done) | (simp; omega))) hb3
  clear hb3
  go_wp2
  exact bodyPost_ret (v := .tuple #[.agg #[.int .i64 0, .int .i64 0], .int .i64 8]) (by simp [results, Try.results72, go_sem, World.cell?_alloc_past, *]) rfl ⟨rfl, (by (repeat (first | (with_reducible exact HB3.out) | (with_reducible refine Below.setCell ?_ ?_ _) | (with_reducible refine below_alloc_top ?_ _) | (with_reducible refine Below.drew ?_))); all_goals (first | omega | (simp; done) | (simp; omega)))⟩
set_option maxRecDepth 100000 in
set_option maxHeartbeats 1000000 in
theorem refBehindSq_ok (a b u v : Int) (o : AnOk a b u v) (hk : bhN a v ≤ bhD a b u) (hs1 : (inB (lowN (bhN a v) (bhD a b u)) (-1000000000) 1000000000 && inB (lowD (bhN a v) (bhD a b u)) 1 1000000000) = true) (w : World) :
    Calls Try.prog 72 #[.agg #[.int .i64 a, .int .i64 b], .int .i64 u, .int .i64 v] w fun e w' => e = .returned (.tuple #[.agg #[.int .i64 (lowN (bhN a v) (bhD a b u)), .int .i64 (lowD (bhN a v) (bhD a b u))], .int .i64 0]) ∧ Below w.heap.size w w' := by
  have hp := fun w => refPasses_any a b u v w o
  rw [decide_eq_true hk] at hp
  have HP := Lib.hid hp
  have nf := an_f o
  have ht := bhD_turn a b u
  have f13 : 1 ≤ u * u * (a * a + b * b) ∧ u * u * (a * a + b * b) ≤ 200000000000000 := by rw [ht]; exact nf.f6
  have hl := fun w => lowest_any (bhN a v) (bhD a b u) w nf.f4.1 (by have := nf.f4.2; unfold bhN; omega) nf.f6.1 (by have := nf.f6.2; unfold bhD; omega)
  have hs := fun w => isSmall_any (lowN (bhN a v) (bhD a b u)) (lowD (bhN a v) (bhD a b u)) w
  generalize lowN (bhN a v) (bhD a b u) = x at *
  generalize lowD (bhN a v) (bhD a b u) = y at *
  rw [← ht] at hl
  unfold bhN at hl
  rw [hs1] at hs
  have HL := Lib.hid hl
  have HS := Lib.hid hs
  obtain ⟨⟨f1, f2⟩, ⟨f3, f4⟩, ⟨f5, f6⟩, ⟨f7, f8⟩, _, _, ⟨g1, g2⟩⟩ := nf
  obtain ⟨g3, g4⟩ := f13
  clear hp o hk ht hl hs
  go_enter Try.func72, Try.ntmps72
  go_wp2_with fail
  refine (HP.out _).mono ?_
  rintro e w1 ⟨rfl, hb1⟩
  have qw10 : w1.cell? ⟨w.heap.size, 0, none⟩ = some (.int .i64 a) := cell_later hb1 (by simp [go_sem])
  have qw11 : w1.cell? ⟨w.heap.size, 1, none⟩ = some (.int .i64 b) := cell_later hb1 (by simp [go_sem])
  have qw12 : w1.cell? ⟨w.heap.size + 1, 0, none⟩ = some (.int .i64 0) := cell_later hb1 (by simp [go_sem])
  have qw13 : w1.cell? ⟨w.heap.size + 1, 1, none⟩ = some (.int .i64 0) := cell_later hb1 (by simp [go_sem])
  have qw1f0 : w1.frozen? ⟨w.heap.size + 1, 0, none⟩ = false := frozen_after hb1 (v := .int .i64 0) (by simp [go_sem]) (by simp [go_sem])
  have qw1f1 : w1.frozen? ⟨w.heap.size + 1, 1, none⟩ = false := frozen_after hb1 (v := .int .i64 0) (by simp [go_sem]) (by simp [go_sem])
  have zz10 := World.block_lt_of_cell? _ _ qw10
  dsimp only at zz10
  have zz12 := World.block_lt_of_cell? _ _ qw12
  dsimp only at zz12
  have HB1 : Hid (Below w.heap.size w w1) := below_after (by repeat (first | exact Below.refl _ _ | refine Below.drew ?_ | refine below_drewN ?_ _ | refine Below.setCell ?_ (by first | omega | (simp; done) | (simp; omega)) _ | refine Below.alloc ?_ (by first | omega | (simp; done) | (simp; omega)) _)) hb1 (by simp; omega)
  clear hb1
  go_wp2_with fail
  refine (HL.out _).mono ?_
  rintro e w2 ⟨rfl, hb2⟩
  have qw20 : w2.cell? ⟨w.heap.size, 0, none⟩ = some (.int .i64 a) := cell_later hb2 (by simp [go_sem, World.cell?_alloc_past, World.frozen?_alloc_past, *])
  have qw21 : w2.cell? ⟨w.heap.size, 1, none⟩ = some (.int .i64 b) := cell_later hb2 (by simp [go_sem, World.cell?_alloc_past, World.frozen?_alloc_past, *])
  have qw22 : w2.cell? ⟨w.heap.size + 1, 0, none⟩ = some (.int .i64 0) := cell_later hb2 (by simp [go_sem, World.cell?_alloc_past, World.frozen?_alloc_past, *])
  have qw23 : w2.cell? ⟨w.heap.size + 1, 1, none⟩ = some (.int .i64 0) := cell_later hb2 (by simp [go_sem, World.cell?_alloc_past, World.frozen?_alloc_past, *])
  have qw2f0 : w2.frozen? ⟨w.heap.size + 1, 0, none⟩ = false := frozen_after hb2 (v := .int .i64 0) (by simp [go_sem, World.cell?_alloc_past, World.frozen?_alloc_past, *]) (by simp [go_sem, World.cell?_alloc_past, World.frozen?_alloc_past, *])
  have qw2f1 : w2.frozen? ⟨w.heap.size + 1, 1, none⟩ = false := frozen_after hb2 (v := .int .i64 0) (by simp [go_sem, World.cell?_alloc_past, World.frozen?_alloc_past, *]) (by simp [go_sem, World.cell?_alloc_past, World.frozen?_alloc_past, *])
  have zz20 := World.block_lt_of_cell? _ _ qw20
  dsimp only at zz20
  have zz22 := World.block_lt_of_cell? _ _ qw22
  dsimp only at zz22
  have HB2 : Hid (Below w.heap.size w w2) := below_then HB1.out hb2
  clear hb2
  go_wp2_with fail
  refine (HS.out _).mono ?_
  rintro e w3 ⟨rfl, hb3⟩
  have qw30 : w3.cell? ⟨w.heap.size, 0, none⟩ = some (.int .i64 a) := cell_later hb3 (by simp [go_sem, World.cell?_alloc_past, World.frozen?_alloc_past, *])
  have qw31 : w3.cell? ⟨w.heap.size, 1, none⟩ = some (.int .i64 b) := cell_later hb3 (by simp [go_sem, World.cell?_alloc_past, World.frozen?_alloc_past, *])
  have qw32 : w3.cell? ⟨w.heap.size + 1, 0, none⟩ = some (.int .i64 0) := cell_later hb3 (by simp [go_sem, World.cell?_alloc_past, World.frozen?_alloc_past, *])
  have qw33 : w3.cell? ⟨w.heap.size + 1, 1, none⟩ = some (.int .i64 0) := cell_later hb3 (by simp [go_sem, World.cell?_alloc_past, World.frozen?_alloc_past, *])
  have qw34 : w3.cell? ⟨w2.heap.size, 0, none⟩ = some (.int .i64 x) := cell_later hb3 (by simp [go_sem, World.cell?_alloc_past, World.frozen?_alloc_past, *])
  have qw35 : w3.cell? ⟨w2.heap.size, 1, none⟩ = some (.int .i64 y) := cell_later hb3 (by simp [go_sem, World.cell?_alloc_past, World.frozen?_alloc_past, *])
  have qw3f0 : w3.frozen? ⟨w.heap.size + 1, 0, none⟩ = false := frozen_after hb3 (v := .int .i64 0) (by simp [go_sem, World.cell?_alloc_past, World.frozen?_alloc_past, *]) (by simp [go_sem, World.cell?_alloc_past, World.frozen?_alloc_past, *])
  have qw3f1 : w3.frozen? ⟨w.heap.size + 1, 1, none⟩ = false := frozen_after hb3 (v := .int .i64 0) (by simp [go_sem, World.cell?_alloc_past, World.frozen?_alloc_past, *]) (by simp [go_sem, World.cell?_alloc_past, World.frozen?_alloc_past, *])
  have zz30 := World.block_lt_of_cell? _ _ qw30
  dsimp only at zz30
  have zz32 := World.block_lt_of_cell? _ _ qw32
  dsimp only at zz32
  have zz34 := World.block_lt_of_cell? _ _ qw34
  dsimp only at zz34
  have HB3 : Hid (Below w.heap.size w w3) := below_then (by (repeat (first | (with_reducible exact HB2.out) | (with_reducible refine Below.setCell ?_ ?_ _) | (with_reducible refine below_alloc_top ?_ _))); all_goals (first | omega | (simp; done) | (simp; omega))) hb3
  clear hb3
  go_wp2
  exact bodyPost_ret (v := .tuple #[.agg #[.int .i64 x, .int .i64 y], .int .i64 0]) (by simp [results, Try.results72, go_sem, World.cell?_alloc_past, *]) rfl ⟨rfl, (by (repeat (first | (with_reducible exact HB3.out) | (with_reducible refine Below.setCell ?_ ?_ _) | (with_reducible refine below_alloc_top ?_ _) | (with_reducible refine Below.drew ?_))); all_goals (first | omega | (simp; done) | (simp; omega)))⟩
set_option maxRecDepth 100000 in
set_option maxHeartbeats 1000000 in
theorem refBehindSq_none (a b u v : Int) (o : AnOk a b u v) (hk : ¬ bhN a v ≤ bhD a b u) (w : World) :
    Calls Try.prog 72 #[.agg #[.int .i64 a, .int .i64 b], .int .i64 u, .int .i64 v] w fun e w' => e = .returned (.tuple #[.agg #[.int .i64 0, .int .i64 0], .int .i64 12]) ∧ Below w.heap.size w w' := by
  have hp := fun w => refPasses_any a b u v w o
  rw [decide_eq_false hk] at hp
  have HP := Lib.hid hp
  clear hp o hk
  go_enter Try.func72, Try.ntmps72
  go_wp2_with fail
  refine (HP.out _).mono ?_
  rintro e w1 ⟨rfl, hb1⟩
  have qw10 : w1.cell? ⟨w.heap.size, 0, none⟩ = some (.int .i64 a) := cell_later hb1 (by simp [go_sem])
  have qw11 : w1.cell? ⟨w.heap.size, 1, none⟩ = some (.int .i64 b) := cell_later hb1 (by simp [go_sem])
  have qw12 : w1.cell? ⟨w.heap.size + 1, 0, none⟩ = some (.int .i64 0) := cell_later hb1 (by simp [go_sem])
  have qw13 : w1.cell? ⟨w.heap.size + 1, 1, none⟩ = some (.int .i64 0) := cell_later hb1 (by simp [go_sem])
  have qw1f0 : w1.frozen? ⟨w.heap.size + 1, 0, none⟩ = false := frozen_after hb1 (v := .int .i64 0) (by simp [go_sem]) (by simp [go_sem])
  have qw1f1 : w1.frozen? ⟨w.heap.size + 1, 1, none⟩ = false := frozen_after hb1 (v := .int .i64 0) (by simp [go_sem]) (by simp [go_sem])
  have zz10 := World.block_lt_of_cell? _ _ qw10
  dsimp only at zz10
  have zz12 := World.block_lt_of_cell? _ _ qw12
  dsimp only at zz12
  have HB1 : Hid (Below w.heap.size w w1) := below_after (by repeat (first | exact Below.refl _ _ | refine Below.drew ?_ | refine below_drewN ?_ _ | refine Below.setCell ?_ (by first | omega | (simp; done) | (simp; omega)) _ | refine Below.alloc ?_ (by first | omega | (simp; done) | (simp; omega)) _)) hb1 (by simp; omega)
  clear hb1
  go_wp2
  exact bodyPost_ret (v := .tuple #[.agg #[.int .i64 0, .int .i64 0], .int .i64 12]) (by simp [results, Try.results72, go_sem, World.cell?_alloc_past, *]) rfl ⟨rfl, (by (repeat (first | (with_reducible exact HB1.out) | (with_reducible refine Below.setCell ?_ ?_ _) | (with_reducible refine below_alloc_top ?_ _) | (with_reducible refine Below.drew ?_))); all_goals (first | omega | (simp; done) | (simp; omega)))⟩
end Go.Proofs.Ytdicndakelgoeaa
