/- how much two traces are alike -/
import Derived.Test.YtoieemgdkpnbfaaFl7
namespace Go.Proofs.Ytoieemgdkpnbfaa
open Go.RowKit RayM
set_option linter.unusedSimpArgs false
set_option linter.unusedVariables false
/-- the sum of products of samples that are a lag apart -/
def lk0 (lag : Int) : Nat := (max 0 (-lag)).toNat
def lkC (lag : Int) : Nat := (min 64 (64 - lag) - max 0 (-lag)).toNat
def lkS (a b : Nat → Int) (lag : Int) : Nat → Int
  | 0 => 0
  | m + 1 => lkS a b lag m + a (lk0 lag + m) * b ((lk0 lag + m : Nat) + lag).toNat
def lk (a b : Nat → Int) (lag : Int) : Int := lkS a b lag (lkC lag)
theorem prod_in (x y : Int) (hx : -2047 ≤ x ∧ x ≤ 2047) (hy : -2047 ≤ y ∧ y ≤ 2047) : -4194304 ≤ x * y ∧ x * y ≤ 4194304 := by
  have h1 : (x * y).natAbs ≤ 4194304 := by
    rw [Int.natAbs_mul]
    exact Nat.le_trans (Nat.mul_le_mul (show x.natAbs ≤ 2047 by omega) (show y.natAbs ≤ 2047 by omega)) (by decide)
  omega
theorem lkS_bound (a b : Nat → Int) (lag : Int) (ha : ∀ i, i < 64 → -2047 ≤ a i ∧ a i ≤ 2047) (hb : ∀ i, i < 64 → -2047 ≤ b i ∧ b i ≤ 2047) (l0 : -32 ≤ lag) (l1 : lag ≤ 32) : ∀ m, m ≤ lkC lag → -(m * 4194304 : Int) ≤ lkS a b lag m ∧ lkS a b lag m ≤ m * 4194304
  | 0, _ => by simp [lkS]
  | m + 1, h => by
    have ih := lkS_bound a b lag ha hb l0 l1 m (by omega)
    unfold lkC at h
    have p := prod_in _ _ (ha (lk0 lag + m) (by unfold lk0; omega)) (hb ((lk0 lag + m : Nat) + lag).toNat (by unfold lk0; omega))
    show _ ≤ lkS a b lag m + _ ∧ lkS a b lag m + _ ≤ _
    omega
set_option maxRecDepth 100000 in
set_option maxHeartbeats 1000000 in
theorem likeness_any (a c : Nat → Int) (lag : Int) (w : World) (ha : ∀ i, i < 64 → -2047 ≤ a i ∧ a i ≤ 2047) (hc : ∀ i, i < 64 → -2047 ≤ c i ∧ c i ≤ 2047) (l0 : -32 ≤ lag) (l1 : lag ≤ 32) :
    Calls Try.prog 70 #[.agg (vls 64 (fv a)).toArray, .agg (vls 64 (fv c)).toArray, .int .i64 lag] w fun e w' => e = .returned (.int .i64 (lk a c lag)) ∧ Below w.heap.size w w' := by
  have HB := Lib.hid (lkS_bound a c lag ha hc l0 l1)
  have LK : Hid (lk a c lag = lkS a c lag (lkC lag)) := (rfl : _ = _)
  have LS : Hid (∀ m, lkS a c lag (m + 1) = lkS a c lag m + a (lk0 lag + m) * c ((lk0 lag + m : Nat) + lag).toNat) := fun m => rfl
  have L0 : Hid (lkS a c lag 0 = 0) := (rfl : _ = _)
  have HA := Lib.hid ha
  have HC := Lib.hid hc
  generalize lk a c lag = R at *
  clear ha hc
  by_cases hneg : lag < 0
  · obtain ⟨L, rfl⟩ : ∃ L : Nat, lag = -(L : Int) := ⟨(-lag).toNat, by omega⟩
    obtain ⟨N, hN⟩ : ∃ N : Nat, N = 64 - L := ⟨_, rfl⟩
    have hC : N = lkC (-(L : Int)) := by unfold lkC; omega
    have NN := Lib.hid hC
    rw [← hC] at HB LK
    clear hC
    have hL0 : (0 : Int) < (L : Int) := by omega
    have hL1 : (L : Int) ≤ 32 := by omega
    go_enter Try.func70, Try.ntmps70
    go_wp2_with (first
      | ((with_reducible refine wpList_box_named rfl 26 _ rfl 3 rfl 64 (fv a) rfl ?_); intro w1 N1; have s1 := N1.size; have ca1 := N1.at'; have za1 := N1.free; have b1 : Hid (Below w.heap.size w w1) := Lib.hid N1.below; clear N1)
      | ((with_reducible refine wpList_box_named rfl 26 _ rfl 4 rfl 64 (fv c) rfl ?_); intro w2 N2; have s2 := N2.size; have ca2 := ca1.later N2.below; have za2 := za1.later ca1 N2.below; have cc2 := N2.at'; have zc2 := N2.free; have b2 : Hid (Below w.heap.size w w2) := Lib.hid (below_then b1.out N2.below); clear N2; rw [s1] at s2 cc2 zc2))
    go_loopw [7, 8] (fun s7 s8 wr => ∃ m : Nat, m ≤ N ∧ s7 = .int .i64 (lkS a c (-(L : Int)) m) ∧ s8 = .int .i64 ((m : Int) + (L : Int)) ∧ VAt w.heap.size 64 (fv a) wr ∧ VAt (w.heap.size + 1) 64 (fv c) wr ∧ Hid (Below w.heap.size w wr)) (fun _ s8 _ => 64 - (intOf s8).toNat)
    case atStart => exact ⟨0, by omega, by rw [L0.out], by simp, ca2, cc2, b2⟩
    case round =>
      clear ca2 za2 cc2 zc2 b2 s2 ca1 za1 b1 s1
      obtain ⟨m, hm, rfl, rfl, qa, qc, bk⟩ := hrel
      by_cases hlt : m < N
      · have q1 : wr.cell? ⟨w.heap.size, m + L, none⟩ = some (.float .f32 (fs (a (m + L)))) := qa (m + L) (by omega)
        have q2 : wr.cell? ⟨w.heap.size + 1, m, none⟩ = some (.float .f32 (fs (c (m)))) := qc (m) (by omega)
        have ha := HA.out (m + L) (by omega)
        have hc := HC.out (m) (by omega)
        have t1 := toInt_run (a (m + L)) (by omega)
        have t2 := toInt_run (c (m)) (by omega)
        have pb := prod_in _ _ ha hc
        have sb := HB.out m (by omega)
        have hs := LS.out m
        have e1 : IntKind.i64.wrap (a (m + L) * c (m)) = a (m + L) * c (m) := IntWalk.i64_in _ (by omega)
        have e2 : IntKind.i64.wrap (lkS a c (-(L : Int)) m + a (m + L) * c (m)) = lkS a c (-(L : Int)) m + a (m + L) * c (m) := IntWalk.i64_in _ (by omega)
        have hs2 : lkS a c (-(L : Int)) (m + 1) = lkS a c (-(L : Int)) m + a (m + L) * c (m) := by
          have k0 : lk0 (-(L : Int)) = L := by unfold lk0; omega
          have i0 : (((L + m : Nat) : Int) + -(L : Int)).toNat = m := by omega
          rw [hs, k0, i0, Nat.add_comm L m]
        have HS := Lib.hid hs2
        clear hs hs2 pb sb ha hc
        generalize lkS a c (-(L : Int)) m = S0 at *
        generalize a (m + L) = xa at *
        generalize c (m) = xc at *
        have m0 : (0 : Int) ≤ (m : Int) := Int.natCast_nonneg _
        have m1 : (m : Int) < (N : Int) := by omega
        have hT : ((m : Int) + (L : Int)).toNat = m + L := by omega
        have hT2 : (m : Int) + (L : Int) < 64 := by omega
        have hT3 : (0 : Int) ≤ (m : Int) + (L : Int) := by omega
        have hT4 : (m : Int) < 64 := by omega
        have e5 : IntKind.i64.wrap ((m : Int) + (L : Int) + -(L : Int)) = m := by rw [show (m : Int) + (L : Int) + -(L : Int) = m by omega]; exact IntWalk.i64_in _ (by omega)
        have e6 : IntKind.i64.wrap ((m : Int) + (L : Int) - (L : Int)) = m := by rw [show (m : Int) + (L : Int) - (L : Int) = m by omega]; exact IntWalk.i64_in _ (by omega)
        have HN := Lib.hid hN; clear hN
        go_wp2
        all_goals (
          go_quiet (fail)
          generalize hwq : World.drewN wr _ = wq
          have hbq : Below wr.heap.size wr wq := by rw [← hwq]; exact below_drewN (Below.refl _ _) _
          go_wp2
          go_roundw
          case rel => exact ⟨m + 1, by omega, by rw [HS.out], by go_num, qa.later hbq, qc.later hbq, Lib.hid (below_then bk.out hbq)⟩
          case measure => simp [intOf]; omega)
      · have hm' : m = N := by omega
        have hT2 : ¬ ((m : Int) + (L : Int) < 64) := by omega
        have HM := Lib.hid hm'; have HN := Lib.hid hN; clear hm' hN
        go_wp2
        all_goals (
          go_ret
          exact ⟨by rw [LK.out, ← HM.out]; rfl, bk.out⟩)
  · by_cases hzero : lag = 0
    · subst hzero
      obtain ⟨N, hN⟩ : ∃ N : Nat, N = 64 := ⟨_, rfl⟩
      have hC : N = lkC 0 := by unfold lkC; omega
      rw [← hC] at HB LK
      clear hC
      go_enter Try.func70, Try.ntmps70
      go_wp2_with (first
        | ((with_reducible refine wpList_box_named rfl 26 _ rfl 3 rfl 64 (fv a) rfl ?_); intro w1 N1; have s1 := N1.size; have ca1 := N1.at'; have za1 := N1.free; have b1 : Hid (Below w.heap.size w w1) := Lib.hid N1.below; clear N1)
        | ((with_reducible refine wpList_box_named rfl 26 _ rfl 4 rfl 64 (fv c) rfl ?_); intro w2 N2; have s2 := N2.size; have ca2 := ca1.later N2.below; have za2 := za1.later ca1 N2.below; have cc2 := N2.at'; have zc2 := N2.free; have b2 : Hid (Below w.heap.size w w2) := Lib.hid (below_then b1.out N2.below); clear N2; rw [s1] at s2 cc2 zc2))
      go_loopw [7, 8] (fun s7 s8 wr => ∃ m : Nat, m ≤ N ∧ s7 = .int .i64 (lkS a c (0) m) ∧ s8 = .int .i64 ((m : Int)) ∧ VAt w.heap.size 64 (fv a) wr ∧ VAt (w.heap.size + 1) 64 (fv c) wr ∧ Hid (Below w.heap.size w wr)) (fun _ s8 _ => 64 - (intOf s8).toNat)
      case atStart => exact ⟨0, by omega, by rw [L0.out], by simp, ca2, cc2, b2⟩
      case round =>
        clear ca2 za2 cc2 zc2 b2 s2 ca1 za1 b1 s1
        obtain ⟨m, hm, rfl, rfl, qa, qc, bk⟩ := hrel
        by_cases hlt : m < N
        · have q1 : wr.cell? ⟨w.heap.size, m, none⟩ = some (.float .f32 (fs (a (m)))) := qa (m) (by omega)
          have q2 : wr.cell? ⟨w.heap.size + 1, m, none⟩ = some (.float .f32 (fs (c (m)))) := qc (m) (by omega)
          have ha := HA.out (m) (by omega)
          have hc := HC.out (m) (by omega)
          have t1 := toInt_run (a (m)) (by omega)
          have t2 := toInt_run (c (m)) (by omega)
          have pb := prod_in _ _ ha hc
          have sb := HB.out m (by omega)
          have hs := LS.out m
          have e1 : IntKind.i64.wrap (a (m) * c (m)) = a (m) * c (m) := IntWalk.i64_in _ (by omega)
          have e2 : IntKind.i64.wrap (lkS a c (0) m + a (m) * c (m)) = lkS a c (0) m + a (m) * c (m) := IntWalk.i64_in _ (by omega)
          have hs2 : lkS a c (0) (m + 1) = lkS a c (0) m + a (m) * c (m) := by
            have k0 : lk0 0 = 0 := by unfold lk0; omega
            have i0 : (((0 + m : Nat) : Int) + 0).toNat = m := by omega
            rw [hs, k0, i0, Nat.zero_add]
          have HS := Lib.hid hs2
          clear hs hs2 pb sb ha hc
          generalize lkS a c (0) m = S0 at *
          generalize a (m) = xa at *
          generalize c (m) = xc at *
          have m0 : (0 : Int) ≤ (m : Int) := Int.natCast_nonneg _
          have m1 : (m : Int) < (N : Int) := by omega
          have hT5 : (m : Int) < 64 := by omega
          have HN := Lib.hid hN; clear hN
          go_wp2
          all_goals (
            go_quiet (fail)
            generalize hwq : World.drewN wr _ = wq
            have hbq : Below wr.heap.size wr wq := by rw [← hwq]; exact below_drewN (Below.refl _ _) _
            go_wp2
            go_roundw
            case rel => exact ⟨m + 1, by omega, by rw [HS.out], by go_num, qa.later hbq, qc.later hbq, Lib.hid (below_then bk.out hbq)⟩
            case measure => simp [intOf]; omega)
        · have hm' : m = N := by omega
          have hT2 : ¬ ((m : Int) < 64) := by omega
          
          have HM := Lib.hid hm'; have HN := Lib.hid hN; clear hm' hN
          go_wp2
          all_goals (
            go_ret
            exact ⟨by rw [LK.out, ← HM.out]; rfl, bk.out⟩)
    obtain ⟨L, rfl⟩ : ∃ L : Nat, lag = (L : Int) := ⟨lag.toNat, by omega⟩
    obtain ⟨N, hN⟩ : ∃ N : Nat, N = 64 - L := ⟨_, rfl⟩
    have hC : N = lkC (L : Int) := by unfold lkC; omega
    have NN := Lib.hid hC
    rw [← hC] at HB LK
    clear hC
    have hp0 : (64 : Int) - (L : Int) < 64 := by omega
    have hp1 : ¬ (64 : Int) ≤ 64 - (L : Int) := by omega
    go_enter Try.func70, Try.ntmps70
    go_wp2_with (first
      | ((with_reducible refine wpList_box_named rfl 26 _ rfl 3 rfl 64 (fv a) rfl ?_); intro w1 N1; have s1 := N1.size; have ca1 := N1.at'; have za1 := N1.free; have b1 : Hid (Below w.heap.size w w1) := Lib.hid N1.below; clear N1)
      | ((with_reducible refine wpList_box_named rfl 26 _ rfl 4 rfl 64 (fv c) rfl ?_); intro w2 N2; have s2 := N2.size; have ca2 := ca1.later N2.below; have za2 := za1.later ca1 N2.below; have cc2 := N2.at'; have zc2 := N2.free; have b2 : Hid (Below w.heap.size w w2) := Lib.hid (below_then b1.out N2.below); clear N2; rw [s1] at s2 cc2 zc2))
    go_loopw [7, 8] (fun s7 s8 wr => ∃ m : Nat, m ≤ N ∧ s7 = .int .i64 (lkS a c ((L : Int)) m) ∧ s8 = .int .i64 ((m : Int)) ∧ VAt w.heap.size 64 (fv a) wr ∧ VAt (w.heap.size + 1) 64 (fv c) wr ∧ Hid (Below w.heap.size w wr)) (fun _ s8 _ => 64 - (intOf s8).toNat)
    case atStart => exact ⟨0, by omega, by rw [L0.out], by simp, ca2, cc2, b2⟩
    case round =>
      clear ca2 za2 cc2 zc2 b2 s2 ca1 za1 b1 s1
      obtain ⟨m, hm, rfl, rfl, qa, qc, bk⟩ := hrel
      by_cases hlt : m < N
      · have q1 : wr.cell? ⟨w.heap.size, m, none⟩ = some (.float .f32 (fs (a (m)))) := qa (m) (by omega)
        have q2 : wr.cell? ⟨w.heap.size + 1, m + L, none⟩ = some (.float .f32 (fs (c (m + L)))) := qc (m + L) (by omega)
        have ha := HA.out (m) (by omega)
        have hc := HC.out (m + L) (by omega)
        have t1 := toInt_run (a (m)) (by omega)
        have t2 := toInt_run (c (m + L)) (by omega)
        have pb := prod_in _ _ ha hc
        have sb := HB.out m (by omega)
        have hs := LS.out m
        have e1 : IntKind.i64.wrap (a (m) * c (m + L)) = a (m) * c (m + L) := IntWalk.i64_in _ (by omega)
        have e2 : IntKind.i64.wrap (lkS a c ((L : Int)) m + a (m) * c (m + L)) = lkS a c ((L : Int)) m + a (m) * c (m + L) := IntWalk.i64_in _ (by omega)
        have hs2 : lkS a c ((L : Int)) (m + 1) = lkS a c ((L : Int)) m + a (m) * c (m + L) := by
          have k0 : lk0 (L : Int) = 0 := by unfold lk0; omega
          have i0 : (((0 + m : Nat) : Int) + (L : Int)).toNat = m + L := by omega
          rw [hs, k0, i0, Nat.zero_add]
        have HS := Lib.hid hs2
        clear hs hs2 pb sb ha hc
        generalize lkS a c ((L : Int)) m = S0 at *
        generalize a (m) = xa at *
        generalize c (m + L) = xc at *
        have m0 : (0 : Int) ≤ (m : Int) := Int.natCast_nonneg _
        have m1 : (m : Int) < (N : Int) := by omega
        have hT : ((m : Int) + (L : Int)).toNat = m + L := by omega
        have hT2 : (m : Int) < 64 - (L : Int) := by omega
        have hT5 : (m : Int) < 64 := by omega
        have HN := Lib.hid hN; clear hN
        go_wp2
        all_goals (
          go_quiet (fail)
          generalize hwq : World.drewN wr _ = wq
          have hbq : Below wr.heap.size wr wq := by rw [← hwq]; exact below_drewN (Below.refl _ _) _
          go_wp2
          go_roundw
          case rel => exact ⟨m + 1, by omega, by rw [HS.out], by go_num, qa.later hbq, qc.later hbq, Lib.hid (below_then bk.out hbq)⟩
          case measure => simp [intOf]; omega)
      · have hm' : m = N := by omega
        have hT2 : ¬ ((m : Int) < 64 - (L : Int)) := by omega
        have HM := Lib.hid hm'; have HN := Lib.hid hN; clear hm' hN
        go_wp2
        all_goals (
          go_ret
          exact ⟨by rw [LK.out, ← HM.out]; rfl, bk.out⟩)
end Go.Proofs.Ytoieemgdkpnbfaa
