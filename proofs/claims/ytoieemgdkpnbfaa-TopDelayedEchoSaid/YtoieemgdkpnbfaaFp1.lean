/- gains: lowest terms, and the errors of a gain -/
import Derived.Test.YtoieemgdkpnbfaaFlQ
import Derived.Test.YtoieemgdkpnbfaaFm4
import Derived.Test.YtoieemgdkpnbfaaFlS
import Derived.Test.YtoieemgdkpnbfaaFn3
namespace Go.Proofs.Ytoieemgdkpnbfaa
open Go.RowKit RayM
set_option linter.unusedSimpArgs false
set_option linter.unusedVariables false
set_option maxRecDepth 100000 in
set_option maxHeartbeats 1000000 in
/-- sizeOf -/
theorem sizeOf_any (n : Int) (w : World) (h0 : -9223372036854775808 ≤ n) (h1 : n ≤ 9223372036854775807) :
    Calls Try.prog 89 #[.int .i64 n] w fun e w' => e = .returned (.int .u64 (n.natAbs : Int)) ∧ w = w' := by
  by_cases h : n < 0
  · obtain ⟨m, hm⟩ := Int.eq_ofNat_of_zero_le (show 0 ≤ -n by omega)
    have hn : n = -(m : Int) := by omega
    subst hn
    have e : ((-(m : Int)).natAbs : Int) = m := by omega
    have E := Lib.hid e; clear e hm
    have e1 : IntKind.u64.wrap (-(m : Int)) = 18446744073709551616 - m := by rw [IntKind.wrap_u64]; omega
    have e2 : IntKind.u64.wrap (-(18446744073709551616 - (m : Int))) = m := by rw [IntKind.wrap_u64]; omega
    go_enter Try.func89, Try.ntmps89
    go_wp2
    go_ret
    exact ⟨by rw [E.out]; rfl, rfl⟩
  · have e : (n.natAbs : Int) = n := by omega
    have E := Lib.hid e; clear e
    go_enter Try.func89, Try.ntmps89
    go_wp2
    go_ret
    exact ⟨by rw [E.out]; rfl, rfl⟩

set_option maxRecDepth 100000 in
set_option maxHeartbeats 1000000 in
/-- commonDivisor -/
theorem commonDivisor_any (a b : Int) (w : World) (a0 : -9223372036854775808 ≤ a) (a1 : a ≤ 9223372036854775807) (b0 : -9223372036854775808 ≤ b) (b1 : b ≤ 9223372036854775807) :
    Calls Try.prog 87 #[.int .i64 a, .int .i64 b] w fun e w' => e = .returned (.int .u64 (Nat.gcd a.natAbs b.natAbs : Nat)) ∧ Below w.heap.size w w' := by
  have ha : a.natAbs ≤ 9223372036854775808 := by omega
  have hb : b.natAbs ≤ 9223372036854775808 := by omega
  generalize hg : Nat.gcd a.natAbs b.natAbs = g
  have HG := Lib.hid hg; clear hg
  go_enter Try.func87, Try.ntmps87
  go_wp2_with (go_at_call 89; refine (sizeOf_any _ _ (by omega) (by omega)).mono ?_; rintro e w' ⟨rfl, rfl⟩)
  go_loopw [5, 6] (fun s5 s6 wr => ∃ x y : Nat, s5 = .int .u64 x ∧ s6 = .int .u64 y ∧ x ≤ 9223372036854775808 ∧ y ≤ 9223372036854775808 ∧ Below w.heap.size w wr ∧ Hid (Nat.gcd x y = g)) (fun _ s6 _ => (intOf s6).toNat)
  case atStart => exact ⟨_, _, rfl, rfl, ha, hb, Below.refl _ _, HG⟩
  case round =>
    obtain ⟨x, y, rfl, rfl, hx, hy, hb, I⟩ := hrel
    by_cases h0 : y = 0
    · subst h0
      have e : x = g := by rw [← I.out, Nat.gcd_zero_right]
      have E := Lib.hid e; clear e
      go_wp2
      go_ret
      exact ⟨by rw [E.out]; rfl, hb⟩
    · have n0 : ((y : Int) != 0) = true := by simp; omega
      have n1 : ((y : Int) == 0) = false := by simp; omega
      have n2 : (1 : Int) ≤ (y : Int) := by omega
      have J : Hid (Nat.gcd y (x % y) = g) := by rw [← I.out]; show Nat.gcd y (x % y) = Nat.gcd x y; rw [Nat.gcd_comm x y, Nat.gcd_rec y x, Nat.gcd_comm]
      have hm : x % y < y := Nat.mod_lt _ (by omega)
      go_wp2
      go_quiet (fail)
      go_wp2
      go_roundw
      case rel => exact ⟨y, x % y, rfl, by go_num, hy, by omega, below_drewN hb _, J⟩
      case measure => simp [intOf]; omega

set_option maxRecDepth 100000 in
set_option maxHeartbeats 1000000 in
theorem sizeZ_any (n : Int) (w : World) (h0 : -9223372036854775807 ≤ n) (h1 : n ≤ 9223372036854775807) :
    Calls Try.prog 57 #[.int .i64 n] w fun e w' => e = .returned (.int .i64 (n.natAbs : Int)) ∧ w = w' := by
  have ew : IntKind.i64.wrap (-n) = -n := IntWalk.i64_in _ (by omega)
  generalize hv : (n.natAbs : Int) = v
  by_cases p : n < -n
  · have E : Hid (v = -n) := by show _ = _; omega
    clear h0 h1 hv
    rw [E.out]
    go_enter Try.func57, Try.ntmps57
    go_wp2
    go_ret
    exact ⟨rfl, rfl⟩
  · have E : Hid (v = n) := by show _ = _; omega
    clear h0 h1 hv
    rw [E.out]
    go_enter Try.func57, Try.ntmps57
    go_wp2
    go_ret
    exact ⟨rfl, rfl⟩
theorem tmod_b (x y : Int) (h0 : -9223372036854775808 ≤ y) (h1 : y ≤ 9223372036854775807) (hy : y ≠ 0) : -9223372036854775807 ≤ Int.tmod x y ∧ Int.tmod x y ≤ 9223372036854775807 := by
  have e := Int.natAbs_tmod x y
  have := Nat.mod_lt x.natAbs (show 0 < y.natAbs by omega)
  omega
set_option maxRecDepth 100000 in
set_option maxHeartbeats 1000000 in
theorem gcdZ_any (a b : Int) (w : World) (a0 : -9223372036854775808 ≤ a) (a1 : a ≤ 9223372036854775807) (b0 : 1 ≤ b) (b1 : b ≤ 9223372036854775807) :
    Calls Try.prog 82 #[.int .i64 a, .int .i64 b] w fun e w' => e = .returned (.int .i64 (Nat.gcd a.natAbs b.natAbs : Nat)) ∧ Below w.heap.size w w' := by
  have hg0 : Nat.gcd a.natAbs b.natAbs ≤ 9223372036854775807 := Nat.le_trans (Nat.gcd_le_right _ (by omega)) (by omega)
  generalize hg : Nat.gcd a.natAbs b.natAbs = g at *
  have HG := Lib.hid hg; clear hg
  go_enter Try.func82, Try.ntmps82
  go_wp2
  go_loopw [0, 1] (fun s5 s6 wr => ∃ x y : Int, s5 = .int .i64 x ∧ s6 = .int .i64 y ∧ -9223372036854775808 ≤ x ∧ x ≤ 9223372036854775807 ∧ -9223372036854775807 ≤ y ∧ y ≤ 9223372036854775807 ∧ Below w.heap.size w wr ∧ Hid (Nat.gcd x.natAbs y.natAbs = g)) (fun _ s6 _ => (intOf s6).natAbs)
  case atStart => exact ⟨_, _, rfl, rfl, a0, a1, by omega, b1, Below.refl _ _, HG⟩
  case round =>
    clear a0 a1 b0 b1 HG
    obtain ⟨x, y, rfl, rfl, hx0, hx1, hy0, hy1, hb, I⟩ := hrel
    by_cases h0 : y = 0
    · subst h0
      have e : x.natAbs = g := by rw [← I.out]; simp
      have E := Lib.hid e
      go_wp2_with (go_at_call 57; refine (sizeZ_any _ _ (by omega) (by omega)).mono ?_; rintro e w' ⟨rfl, rfl⟩)
      go_ret
      exact ⟨by rw [← E.out]; rfl, hb⟩
    · have n0 : (y != 0) = true := by simp; omega
      have n1 : (y == 0) = false := by simp; omega
      obtain ⟨t0, t1⟩ := tmod_b x y (by omega) (by omega) h0
      have j : Nat.gcd y.natAbs (Int.tmod x y).natAbs = g := by rw [← I.out, Int.natAbs_tmod, Nat.gcd_comm x.natAbs y.natAbs, Nat.gcd_rec y.natAbs x.natAbs, Nat.gcd_comm]
      have J := Lib.hid j; clear j
      have hm2 : x.natAbs % y.natAbs < y.natAbs := Nat.mod_lt _ (by omega)
      have hm : (Int.tmod x y).natAbs < y.natAbs := by rw [Int.natAbs_tmod]; exact Nat.mod_lt _ (by omega)
      go_wp2
      go_quiet (fail)
      go_wp2
      go_roundw
      case rel => exact ⟨y, Int.tmod x y, rfl, by go_num, by omega, by omega, by omega, by omega, below_drewN hb _, J⟩
      case measure => simp [intOf]; omega
def lowB (n d : Int) : Bool := decide (0 < d) && (Nat.gcd n.natAbs d.natAbs == 1)
structure I64 (n : Int) : Prop where
  a : -9223372036854775808 ≤ n
  b : n ≤ 9223372036854775807
set_option maxRecDepth 100000 in
set_option maxHeartbeats 1000000 in
theorem isLowest_any (n d : Int) (hn : I64 n) (hd : I64 d) (w : World) :
    Calls Try.prog 61 #[.agg #[.int .i64 n, .int .i64 d]] w fun e w' => e = .returned (.bool (lowB n d)) ∧ Below w.heap.size w w' := by
  obtain ⟨n0, n1⟩ := hn
  obtain ⟨d0, d1⟩ := hd
  by_cases h : 0 < d
  · have hv : lowB n d = (Nat.gcd n.natAbs d.natAbs == 1) := by unfold lowB; rw [decide_eq_true h, Bool.true_and]
    have HG := Lib.hid (fun w => gcdZ_any n d w n0 n1 (by omega) d1)
    rw [hv]
    generalize Nat.gcd n.natAbs d.natAbs = g at *
    clear hv
    by_cases hg : g = 1
    · subst hg
      go_enter Try.func61, Try.ntmps61
      go_wp2_with fail
      refine (HG.out _).mono ?_
      rintro e w1 ⟨rfl, hb1⟩
      have H1 : Hid (Below w.heap.size w w1) := below_after (by repeat (first | exact Below.refl _ _ | refine Below.drew ?_ | refine below_drewN ?_ _ | refine Below.setCell ?_ (by first | omega | (simp; done) | (simp; omega)) _ | refine Below.alloc ?_ (by first | omega | (simp; done) | (simp; omega)) _)) hb1 (by simp)
      clear hb1
      go_wp2
      go_ret
      exact ⟨rfl, H1.out⟩
    · have k : ((g : Int) == 1) = false := by simp; omega
      go_enter Try.func61, Try.ntmps61
      go_wp2_with fail
      refine (HG.out _).mono ?_
      rintro e w1 ⟨rfl, hb1⟩
      have H1 : Hid (Below w.heap.size w w1) := below_after (by repeat (first | exact Below.refl _ _ | refine Below.drew ?_ | refine below_drewN ?_ _ | refine Below.setCell ?_ (by first | omega | (simp; done) | (simp; omega)) _ | refine Below.alloc ?_ (by first | omega | (simp; done) | (simp; omega)) _)) hb1 (by simp)
      clear hb1
      go_wp2
      go_ret
      exact ⟨by rw [show (g == 1) = false by simp [hg]]; rfl, H1.out⟩
  · have hv : lowB n d = false := by unfold lowB; rw [decide_eq_false h, Bool.false_and]
    rw [hv]
    clear hv
    go_enter Try.func61, Try.ntmps61
    go_wp2
    go_ret
    exact ⟨rfl, (by repeat (first | exact Below.refl _ _ | refine Below.drew ?_ | refine below_drewN ?_ _ | refine Below.setCell ?_ (by first | omega | (simp; done) | (simp; omega)) _ | refine Below.alloc ?_ (by first | omega | (simp; done) | (simp; omega)) _))⟩
set_option maxRecDepth 100000 in
set_option maxHeartbeats 1000000 in
theorem chkLowest_any (n d : Int) (hn : I64 n) (hd : I64 d) (w : World) :
    Calls Try.prog 81 #[.agg #[.int .i64 n, .int .i64 d]] w fun e w' => e = .returned (.int .i64 (unl (lowB n d) 3)) ∧ Below w.heap.size w w' := by
  obtain ⟨n0, n1⟩ := hn
  obtain ⟨d0, d1⟩ := hd
  by_cases h : 0 < d
  · have hv : lowB n d = (Nat.gcd n.natAbs d.natAbs == 1) := by unfold lowB; rw [decide_eq_true h, Bool.true_and]
    have HG := Lib.hid (fun w => commonDivisor_any n d w n0 n1 d0 d1)
    rw [hv]
    generalize Nat.gcd n.natAbs d.natAbs = g at *
    clear hv
    by_cases hg : g = 1
    · subst hg
      go_enter Try.func81, Try.ntmps81
      go_wp2_with fail
      refine (HG.out _).mono ?_
      rintro e w1 ⟨rfl, hb1⟩
      have H1 : Hid (Below w.heap.size w w1) := Lib.hid (below_after (by repeat (first | exact Below.refl _ _ | refine Below.drew ?_ | refine below_drewN ?_ _ | refine Below.setCell ?_ (by first | omega | (simp; done) | (simp; omega)) _ | refine Below.alloc ?_ (by first | omega | (simp; done) | (simp; omega)) _)) hb1 (by simp))
      clear hb1
      go_wp2_with (go_at_call 67; refine (unless_any _ _ _).mono ?_; rintro e w' ⟨rfl, rfl⟩)
      go_ret
      exact ⟨rfl, H1.out⟩
    · have k : ((g : Int) == 1) = false := by simp; omega
      go_enter Try.func81, Try.ntmps81
      go_wp2_with fail
      refine (HG.out _).mono ?_
      rintro e w1 ⟨rfl, hb1⟩
      have H1 : Hid (Below w.heap.size w w1) := Lib.hid (below_after (by repeat (first | exact Below.refl _ _ | refine Below.drew ?_ | refine below_drewN ?_ _ | refine Below.setCell ?_ (by first | omega | (simp; done) | (simp; omega)) _ | refine Below.alloc ?_ (by first | omega | (simp; done) | (simp; omega)) _)) hb1 (by simp))
      clear hb1
      go_wp2_with (go_at_call 67; refine (unless_any _ _ _).mono ?_; rintro e w' ⟨rfl, rfl⟩)
      go_ret
      exact ⟨by rw [show (g == 1) = false by simp [hg]]; rfl, H1.out⟩
  · have hv : lowB n d = false := by unfold lowB; rw [decide_eq_false h, Bool.false_and]
    rw [hv]
    clear hv
    go_enter Try.func81, Try.ntmps81
    go_wp2_with (go_at_call 67; refine (unless_any _ _ _).mono ?_; rintro e w' ⟨rfl, rfl⟩)
    go_ret
    exact ⟨rfl, (by repeat (first | exact Below.refl _ _ | refine Below.drew ?_ | refine below_drewN ?_ _ | refine Below.setCell ?_ (by first | omega | (simp; done) | (simp; omega)) _ | refine Below.alloc ?_ (by first | omega | (simp; done) | (simp; omega)) _))⟩
/-- the error of a gain -/
def gnE (n d : Int) : Int := if lowB n d then unl (inB n 0 1000 && decide (d ≤ 1000)) 2 else 3
theorem gnE_fst (n d : Int) : fst [unl (lowB n d) 3, unl (inB n 0 1000) 2, unl (inB d 1 1000) 2] = gnE n d := by
  by_cases h : 0 < d
  · have e : inB d 1 1000 = decide (d ≤ 1000) := by unfold inB; rw [decide_eq_true (show (1 : Int) ≤ d by omega), Bool.true_and]
    unfold gnE; rw [e]
    cases lowB n d <;> cases inB n 0 1000 <;> cases decide (d ≤ 1000) <;> rfl
  · have e : lowB n d = false := by unfold lowB; rw [decide_eq_false h, Bool.false_and]
    unfold gnE; rw [e]; rfl
set_option maxRecDepth 100000 in
set_option maxHeartbeats 1000000 in
theorem gainError_any (n d : Int) (hn : I64 n) (hd : I64 d) (w : World) :
    Calls Try.prog 59 #[.agg #[.int .i64 n, .int .i64 d]] w fun e w' => e = .returned (.int .i64 (gnE n d)) ∧ Below w.heap.size w w' := by
  have HL := Lib.hid (fun w => chkLowest_any n d hn hd w)
  clear hn hd
  have EF : Hid (fst [unl (lowB n d) 3, unl (inB n 0 1000) 2, unl (inB d 1 1000) 2] = gnE n d) := gnE_fst n d
  generalize gnE n d = X at *
  generalize hu0 : unl (lowB n d) 3 = u0 at *
  go_enter Try.func59, Try.ntmps59
  go_wp2
  have hS : Below w.heap.size w (w.alloc (.cells #[.int .i64 n, .int .i64 d] 41)) := below_new _ _
  refine wp_region_held_drew (S := fun w' => w'.cell? ⟨w.heap.size, 0, none⟩ = some (.int .i64 n) ∧ w'.cell? ⟨w.heap.size, 1, none⟩ = some (.int .i64 d) ∧ Below w.heap.size w w') (by kernel_rfl) ⟨by simp [go_sem], by simp [go_sem], hS.drew⟩ (fun hHeld => ?_)
  refine takeH (i := 0) (d := 3) (v := .agg #[.int .i64 n, .int .i64 d]) rfl rfl (by kernel_rfl) (by kernel_rfl) (by kernel_rfl) (fun _ _ _ h => h) (Or.inl ⟨by first | kernel_rfl | rfl, ?_⟩) hHeld ?_
  · intro w' hSw; obtain ⟨q0, q1, _⟩ := hSw; go_simp
  try simp only [Act.put, List.setIfInBounds_toArray, List.set_cons_zero, List.set_cons_succ]
  refine takeH (i := 2) (d := 5) (v := .pointer (some ⟨w.heap.size, 0, none⟩)) rfl rfl (by kernel_rfl) (by kernel_rfl) (by kernel_rfl) (fun _ _ _ h => h) (Or.inl ⟨by first | kernel_rfl | rfl, ?_⟩) hHeld ?_
  · intro w' hSw; go_simp
  try simp only [Act.put, List.setIfInBounds_toArray, List.set_cons_zero, List.set_cons_succ]
  refine takeH (i := 3) (d := 6) (v := .int .i64 n) rfl rfl (by kernel_rfl) (by kernel_rfl) (by kernel_rfl) (fun _ _ _ h => h) (Or.inl ⟨by first | kernel_rfl | rfl, ?_⟩) hHeld ?_
  · intro w' hSw; obtain ⟨q0, q1, _⟩ := hSw; go_simp
  try simp only [Act.put, List.setIfInBounds_toArray, List.set_cons_zero, List.set_cons_succ]
  refine takeH (i := 5) (d := 8) (v := .pointer (some ⟨w.heap.size, 1, none⟩)) rfl rfl (by kernel_rfl) (by kernel_rfl) (by kernel_rfl) (fun _ _ _ h => h) (Or.inl ⟨by first | kernel_rfl | rfl, ?_⟩) hHeld ?_
  · intro w' hSw; go_simp
  try simp only [Act.put, List.setIfInBounds_toArray, List.set_cons_zero, List.set_cons_succ]
  refine takeH (i := 6) (d := 9) (v := .int .i64 d) rfl rfl (by kernel_rfl) (by kernel_rfl) (by kernel_rfl) (fun _ _ _ h => h) (Or.inl ⟨by first | kernel_rfl | rfl, ?_⟩) hHeld ?_
  · intro w' hSw; obtain ⟨q0, q1, _⟩ := hSw; go_simp
  try simp only [Act.put, List.setIfInBounds_toArray, List.set_cons_zero, List.set_cons_succ]
  refine wpAnyH_ready (rs := [1]) (by kernel_rfl) (by simp) ?_
  refine AllReadyH.cons rfl (fun K hK => ?_) AllReadyH.nil
  go_simp
  (go_at_call 81; (with_reducible refine (HL.out _).mono ?_); rintro e w' ⟨rfl, hb⟩)
  refine hK.out _ _ ⟨cell_later hb hHeld.1, cell_later hb hHeld.2.1, below_then hHeld.2.2 hb⟩ (fun hHeld => ?_)
  clear hK K
  try simp only [Act.put, List.setIfInBounds_toArray, List.set_cons_zero, List.set_cons_succ]
  refine wpAnyH_ready (rs := [4]) (by kernel_rfl) (by simp) ?_
  refine AllReadyH.cons rfl (fun K hK => ?_) AllReadyH.nil
  go_simp
  (go_at_call 54; (with_reducible refine (isWithin_any _ _ _ _).mono ?_); rintro e w' ⟨rfl, rfl⟩)
  refine hK.out _ _ ⟨hHeld.1, hHeld.2.1, hHeld.2.2⟩ (fun hHeld => ?_)
  clear hK K
  try simp only [Act.put, List.setIfInBounds_toArray, List.set_cons_zero, List.set_cons_succ]
  refine wpAnyH_ready (rs := [7]) (by kernel_rfl) (by simp) ?_
  refine AllReadyH.cons rfl (fun K hK => ?_) AllReadyH.nil
  go_simp
  (go_at_call 54; (with_reducible refine (isWithin_any _ _ _ _).mono ?_); rintro e w' ⟨rfl, rfl⟩)
  refine hK.out _ _ ⟨hHeld.1, hHeld.2.1, hHeld.2.2⟩ (fun hHeld => ?_)
  clear hK K
  try simp only [Act.put, List.setIfInBounds_toArray, List.set_cons_zero, List.set_cons_succ]
  refine wpAnyH_ready (rs := [8]) (by kernel_rfl) (by simp) ?_
  refine AllReadyH.cons rfl (fun K hK => ?_) AllReadyH.nil
  go_simp
  refine hK.out _ _ ⟨cell_alloc_later hHeld.1 _, cell_alloc_later hHeld.2.1 _, below_alloc_top hHeld.2.2 _⟩ (fun hHeld => ?_)
  clear hK K
  try simp only [Act.put, List.setIfInBounds_toArray, List.set_cons_zero, List.set_cons_succ]
  refine wpAnyH_ready (rs := [9]) (by kernel_rfl) (by simp) ?_
  refine AllReadyH.cons rfl (fun K hK => ?_) AllReadyH.nil
  go_simp
  (go_at_call 50; refine (firstError_any _ [u0, unl (inB n 0 1000) 2, unl (inB d 1 1000) 2] _ (by simp) (by first | exact cells_drew _ _ (by first | rfl | assumption | simp) _ _ | exact cells_new _ _ (by first | rfl | assumption | simp) _ _)).mono ?_; rintro e w' ⟨rfl, rfl⟩)
  refine hK.out _ _ ⟨hHeld.1, hHeld.2.1, hHeld.2.2⟩ (fun hHeld => ?_)
  clear hK K
  try simp only [Act.put, List.setIfInBounds_toArray, List.set_cons_zero, List.set_cons_succ]
  refine wpAnyH_ready (rs := [10]) (by kernel_rfl) (by simp) ?_
  refine AllReadyH.cons rfl (fun K hK => ?_) AllReadyH.nil
  go_simp
  refine hK.out _ _ ⟨hHeld.1, hHeld.2.1, hHeld.2.2⟩ (fun hHeld => ?_)
  clear hK K
  try simp only [Act.put, List.setIfInBounds_toArray, List.set_cons_zero, List.set_cons_succ]
  refine wpAnyH_done (by kernel_rfl) ?_ _
  have hbel := hHeld.2.2
  clear hHeld
  go_wp2
  go_ret
  exact ⟨by rw [← EF.out]; rfl, hbel⟩
theorem gnE_zero (n d : Int) : gnE n d = 0 → 0 ≤ n ∧ n ≤ 1000 ∧ 1 ≤ d ∧ d ≤ 1000 := by
  intro h
  unfold gnE at h
  cases hl : lowB n d
  · rw [hl] at h; simp at h
  · rw [hl] at h
    have hd : 0 < d := by unfold lowB at hl; simp at hl; exact hl.1
    have h2 : (inB n 0 1000 && decide (d ≤ 1000)) = true := by
      cases hx : (inB n 0 1000 && decide (d ≤ 1000))
      · rw [hx] at h; simp [unl] at h
      · rfl
    simp only [Bool.and_eq_true, decide_eq_true_eq] at h2
    have := (inB_iff _ _ _).1 h2.1
    omega
set_option maxRecDepth 100000 in
set_option maxHeartbeats 1000000 in
theorem gainErr_any (n d : Int) (hn : I64 n) (hd : I64 d) (w : World) :
    Calls Try.prog 22 #[.agg #[.int .i64 n, .int .i64 d]] w fun e w' => e = .returned (.int .i64 (gnE n d)) ∧ Below w.heap.size w w' := by
  have HL := Lib.hid (fun w => isLowest_any n d hn hd w)
  clear hn hd
  have GE : Hid (gnE n d = if lowB n d then unl (inB n 0 1000 && decide (d ≤ 1000)) 2 else 3) := (rfl : _ = _)
  generalize gnE n d = X at *
  cases hl : lowB n d
  · rw [hl] at HL GE
    clear hl
    go_enter Try.func22, Try.ntmps22
    go_wp2_with fail
    refine (HL.out _).mono ?_
    rintro e w1 ⟨rfl, hb1⟩
    have q0 : w1.cell? ⟨w.heap.size, 0, none⟩ = some (.int .i64 n) := cell_later hb1 (by simp [go_sem])
    have q1 : w1.cell? ⟨w.heap.size, 1, none⟩ = some (.int .i64 d) := cell_later hb1 (by simp [go_sem])
    have H1 : Hid (Below w.heap.size w w1) := Lib.hid (below_after (by repeat (first | exact Below.refl _ _ | refine Below.drew ?_ | refine below_drewN ?_ _ | refine Below.setCell ?_ (by first | omega | (simp; done) | (simp; omega)) _ | refine Below.alloc ?_ (by first | omega | (simp; done) | (simp; omega)) _)) hb1 (by simp))
    clear hb1
    go_wp2
    go_ret
    exact ⟨by rw [GE.out]; rfl, H1.out⟩
  · by_cases h1 : 0 ≤ n ∧ n ≤ 1000
    · have W1 := Lib.hid (fun w => bw_true n 0 1000 h1 w)
      have e1 : inB n 0 1000 = true := (inB_iff _ _ _).2 h1
      rw [e1, Bool.true_and] at GE
      by_cases h2 : d ≤ 1000
      · have hd : decide (1000 < d) = false := by simpa using h2
        rw [decide_eq_true h2] at GE
        clear h1 h2 e1
        rw [hl] at HL GE
        clear hl
        go_enter Try.func22, Try.ntmps22
        go_wp2_with fail
        refine (HL.out _).mono ?_
        rintro e w1 ⟨rfl, hb1⟩
        have q0 : w1.cell? ⟨w.heap.size, 0, none⟩ = some (.int .i64 n) := cell_later hb1 (by simp [go_sem])
        have q1 : w1.cell? ⟨w.heap.size, 1, none⟩ = some (.int .i64 d) := cell_later hb1 (by simp [go_sem])
        have H1 : Hid (Below w.heap.size w w1) := Lib.hid (below_after (by repeat (first | exact Below.refl _ _ | refine Below.drew ?_ | refine below_drewN ?_ _ | refine Below.setCell ?_ (by first | omega | (simp; done) | (simp; omega)) _ | refine Below.alloc ?_ (by first | omega | (simp; done) | (simp; omega)) _)) hb1 (by simp))
        clear hb1
        go_wp2_with (go_at_call 17; (with_reducible refine (W1.out _).mono ?_); rintro e w' ⟨rfl, rfl⟩)
        go_ret
        exact ⟨by rw [GE.out]; rfl, H1.out⟩
      · have hd : decide (1000 < d) = true := by simp; omega
        rw [decide_eq_false h2] at GE
        clear h1 h2 e1
        rw [hl] at HL GE
        clear hl
        go_enter Try.func22, Try.ntmps22
        go_wp2_with fail
        refine (HL.out _).mono ?_
        rintro e w1 ⟨rfl, hb1⟩
        have q0 : w1.cell? ⟨w.heap.size, 0, none⟩ = some (.int .i64 n) := cell_later hb1 (by simp [go_sem])
        have q1 : w1.cell? ⟨w.heap.size, 1, none⟩ = some (.int .i64 d) := cell_later hb1 (by simp [go_sem])
        have H1 : Hid (Below w.heap.size w w1) := Lib.hid (below_after (by repeat (first | exact Below.refl _ _ | refine Below.drew ?_ | refine below_drewN ?_ _ | refine Below.setCell ?_ (by first | omega | (simp; done) | (simp; omega)) _ | refine Below.alloc ?_ (by first | omega | (simp; done) | (simp; omega)) _)) hb1 (by simp))
        clear hb1
        go_wp2_with (go_at_call 17; (with_reducible refine (W1.out _).mono ?_); rintro e w' ⟨rfl, rfl⟩)
        go_ret
        exact ⟨by rw [GE.out]; rfl, H1.out⟩
    · have W1 := Lib.hid (fun w => bw_false n 0 1000 h1 w)
      have e1 : inB n 0 1000 = false := by rw [Bool.eq_false_iff]; exact fun k => h1 ((inB_iff _ _ _).1 k)
      rw [e1, Bool.false_and] at GE
      clear h1 e1
      rw [hl] at HL GE
      clear hl
      go_enter Try.func22, Try.ntmps22
      go_wp2_with fail
      refine (HL.out _).mono ?_
      rintro e w1 ⟨rfl, hb1⟩
      have q0 : w1.cell? ⟨w.heap.size, 0, none⟩ = some (.int .i64 n) := cell_later hb1 (by simp [go_sem])
      have q1 : w1.cell? ⟨w.heap.size, 1, none⟩ = some (.int .i64 d) := cell_later hb1 (by simp [go_sem])
      have H1 : Hid (Below w.heap.size w w1) := Lib.hid (below_after (by repeat (first | exact Below.refl _ _ | refine Below.drew ?_ | refine below_drewN ?_ _ | refine Below.setCell ?_ (by first | omega | (simp; done) | (simp; omega)) _ | refine Below.alloc ?_ (by first | omega | (simp; done) | (simp; omega)) _)) hb1 (by simp))
      clear hb1
      go_wp2_with (go_at_call 17; (with_reducible refine (W1.out _).mono ?_); rintro e w' ⟨rfl, rfl⟩)
      go_ret
      exact ⟨by rw [GE.out]; rfl, H1.out⟩
end Go.Proofs.Ytoieemgdkpnbfaa
