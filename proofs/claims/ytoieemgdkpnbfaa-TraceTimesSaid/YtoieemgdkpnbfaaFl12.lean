/- samples that are the same -/
import Derived.Test.YtoieemgdkpnbfaaFl10
namespace Go.Proofs.Ytoieemgdkpnbfaa
open Go.RowKit RayM
set_option linter.unusedSimpArgs false
set_option linter.unusedVariables false
/-- a sample of whole parts, as the reference makes it -/
theorem cconv_run (a c : Int) (ha : a.natAbs < 2 ^ 24) (hc : c.natAbs < 2 ^ 24) (w : World) : (convert 48 110 (.complex .f32 (fs a) (fs c))).run Try.prog w = .ok (.complex .f64 (fd a) (fd c)) w := by
  refine run_convert_complex (w := w) _ _ .f32 .f64 _ _ _ _ (by kernel_rfl) (by kernel_rfl) ?_
  unfold cConvBits
  have one : ∀ n : Int, n.natAbs < 2 ^ 24 → floatToFloatBits .f32 (fs n) .f64 = some (fd n) := fun n h => by
    unfold floatToFloatBits
    rw [if_neg (by decide)]
    have h2 : n.natAbs < 2 ^ 53 := Nat.lt_of_lt_of_le h (by decide)
    obtain ⟨k, e⟩ := Fl.read_fl Fl.good32 n h
    have e1 : FloatKind.f32.decode (fs n) = .number (decide (n < 0)) (n.natAbs * 2 ^ k) (-(k : Int)) := e
    have e2 : FloatKind.f64.encode (.number (decide (n < 0)) (n.natAbs * 2 ^ k) (-(k : Int))) = fd n := Fl.write_whole Fl.good64 n k _ h2 rfl
    obtain ⟨k', e3⟩ := Fl.read_fl Fl.good64 n h2
    have e4 : FloatKind.f64.decode (fd n) = .number (decide (n < 0)) (n.natAbs * 2 ^ k') (-(k' : Int)) := e3
    rw [e1]
    dsimp only
    rw [e2, e4]
    rfl
  rw [one a ha, one c hc]
  rfl
set_option maxRecDepth 100000 in
set_option maxHeartbeats 1000000 in
theorem sameBits_any (a c : Int) (w : World) :
    Calls Try.prog 65 #[.complex .f64 (fd a) (fd c), .complex .f64 (fd a) (fd c)] w fun e w' => e = .returned (.bool true) ∧ w = w' := by
  have h1 := c83 (fd a)
  have h2 := c83 (fd c)
  go_enter Try.func65, Try.ntmps65
  go_wp2
  go_ret
  exact ⟨rfl, rfl⟩
set_option maxRecDepth 100000 in
set_option maxHeartbeats 1000000 in
theorem sample0_any (w : World) :
    Calls Try.prog 49 #[.int .i64 0, .int .i64 100] w fun e w' => e = .returned (.complex .f32 (fs 0) (fs 100)) ∧ w' = w := by
  go_enter Try.func49, Try.ntmps49
  go_wp2
  go_ret
  exact ⟨rfl, rfl⟩
set_option maxRecDepth 100000 in
set_option maxHeartbeats 1000000 in
theorem sample100_any (w : World) :
    Calls Try.prog 49 #[.int .i64 100, .int .i64 0] w fun e w' => e = .returned (.complex .f32 (fs 100) (fs 0)) ∧ w' = w := by
  go_enter Try.func49, Try.ntmps49
  go_wp2
  go_ret
  exact ⟨rfl, rfl⟩
/-- samples lie somewhere -/
def CxAt (a : Addr) (n : Nat) (x y : Nat → Int) (w : World) : Prop := ∀ i, i < n → w.cell? (a.add i) = some (.complex .f32 (fs (x i)) (fs (y i)))
set_option maxRecDepth 100000 in
set_option maxHeartbeats 1000000 in
theorem sameSamples_any (a d : Addr) (n ca cd : Nat) (x y : Nat → Int) (w : World) (hn : n ≤ 1000) (hx : ∀ i, i < n → (x i).natAbs < 8192) (hy : ∀ i, i < n → (y i).natAbs < 8192) (ha : CxAt a n x y w) (hd : CxAt d n x y w) :
    Calls Try.prog 29 #[.slice (some a) n ca, .slice (some d) n cd] w fun e w' => e = .returned (.bool true) ∧ Below w.heap.size w w' := by
  have HA := Lib.hid ha; have HD := Lib.hid hd; have HX := Lib.hid hx; have HY := Lib.hid hy
  clear ha hd hx hy
  go_enter Try.func29, Try.ntmps29
  go_wp2
  go_loopw [5] (fun s5 wr => ∃ k : Nat, k ≤ n ∧ s5 = .int .i64 (k : Int) ∧ Hid (Below w.heap.size w wr)) (fun s5 _ => n - (intOf s5).toNat)
  case atStart => exact ⟨0, by omega, rfl, Lib.hid (Below.refl _ _)⟩
  case round =>
    obtain ⟨k, hk, rfl, bk⟩ := hrel
    have j0 : (0 : Int) ≤ (k : Int) := Int.natCast_nonneg _
    by_cases hlt : k < n
    · have j1 : (k : Int) < (n : Int) := by omega
      have q0 := cell_later bk.out (HA.out k hlt)
      have q1 := cell_later bk.out (HD.out k hlt)
      have c1 := cconv_run (x k) (y k) (Nat.lt_trans (HX.out k hlt) (by decide)) (Nat.lt_trans (HY.out k hlt) (by decide))
      have SB := Lib.hid (fun w => (sameBits_any (x k) (y k) w).mono (fun e w' h => (⟨h.1, h.2.symm⟩ : e = .returned (.bool true) ∧ w' = w)))
      go_wp2
      go_quiet ((go_at_call 65; exact Calls.quiet_of_same (SB.out _)))
      generalize hwq : World.drewN wr _ = wq
      have hbq : Below wr.heap.size wr wq := by rw [← hwq]; exact below_drewN (Below.refl _ _) _
      have bq : Hid (Below w.heap.size w wq) := Lib.hid (below_then bk.out hbq)
      clear hbq
      go_wp2
      go_roundw
      case rel => exact ⟨k + 1, by omega, by go_num, bq⟩
      case measure => simp [intOf]; omega
    · obtain rfl : k = n := by omega
      have j1 : ¬ (k : Int) < (k : Int) := by omega
      go_wp2
      go_ret
      exact ⟨rfl, bk.out⟩
end Go.Proofs.Ytoieemgdkpnbfaa
