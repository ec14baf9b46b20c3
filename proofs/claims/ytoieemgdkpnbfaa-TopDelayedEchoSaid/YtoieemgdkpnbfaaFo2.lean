/- the reference: lags -/
import Derived.Test.YtoieemgdkpnbfaaFo1
import Derived.Test.YtoieemgdkpnbfaaFlJ
import Derived.Test.YtoieemgdkpnbfaaFlN
import Derived.Test.YtoieemgdkpnbfaaFlQ
import Derived.Test.YtoieemgdkpnbfaaFn3
namespace Go.Proofs.Ytoieemgdkpnbfaa
open Go.RowKit RayM
set_option linter.unusedSimpArgs false
set_option linter.unusedVariables false
set_option maxRecDepth 100000 in
set_option maxHeartbeats 2000000 in
theorem rCorr_any (A B : Option Addr) (ca cd : Nat) (x y : Nat → Int) (lag : Int) (w : World) (hx : ∀ i, i < 64 → -2047 ≤ x i ∧ x i ≤ 2047) (hy : ∀ i, i < 64 → -2047 ≤ y i ∧ y i ≤ 2047) (hA : InAt A 64 x w) (hB : InAt B 64 y w) (l0 : -32 ≤ lag) (l1 : lag ≤ 32) :
    Calls Try.prog 71 #[.slice A 64 ca, .slice B 64 cd, .int .i64 lag] w fun e w' => e = .returned (.int .i64 (lk x y lag)) ∧ Below w.heap.size w w' := by
  obtain ⟨a, rfl, ha⟩ := hA (by decide)
  obtain ⟨d, rfl, hd⟩ := hB (by decide)
  have HX := Lib.hid hx; have HY := Lib.hid hy; have HA := Lib.hid ha; have HD := Lib.hid hd
  have HI := Lib.hid (cr_in x y lag hx hy)
  have HL : Hid (cr x y lag 64 = lk x y lag) := cr_lk x y lag l0 l1
  have HY1 := Lib.hid (cr_yes x y lag)
  have HN1 := Lib.hid (cr_no x y lag)
  have C0 : Hid (cr x y lag 0 = 0) := (rfl : _ = _)
  generalize lk x y lag = R at *
  generalize cr x y lag = s at *
  clear hx hy ha hd hA hB
  go_enter Try.func71, Try.ntmps71
  go_wp2
  go_loopw [7, 8] (fun s7 s8 wr => ∃ t : Nat, t ≤ 64 ∧ s8 = .int .i64 (t : Int) ∧ s7 = .int .i64 (s t) ∧ Hid (Below w.heap.size w wr)) (fun _ s8 _ => 64 - (intOf s8).toNat)
  case atStart => exact ⟨0, by omega, rfl, by rw [C0.out], Lib.hid (Below.refl _ _)⟩
  case round =>
    obtain ⟨t, ht, rfl, rfl, bk⟩ := hrel
    have t0 : (0 : Int) ≤ (t : Int) := Int.natCast_nonneg _
    by_cases hlt : t < 64
    · have t1 : (t : Int) < 64 := by omega
      by_cases hin : 0 ≤ (t : Int) + lag ∧ (t : Int) + lag ≤ 63
      · have e5 : IntKind.i64.wrap ((t : Int) + lag) = (t : Int) + lag := IntWalk.i64_in _ (by omega)
        have HS := Lib.hid (HY1.out t hin)
        have bt := HX.out t hlt
        have bj := HY.out ((t : Int) + lag).toNat (by omega)
        have it := HI.out t (by omega)
        have W1 := Lib.hid (fun w => bw_true ((t : Int) + lag) 0 63 hin w)
        obtain ⟨j, hj⟩ : ∃ j : Nat, (t : Int) + lag = (j : Int) := ⟨((t : Int) + lag).toNat, by omega⟩
        have W2 := W1
        rw [hj] at HS W2 bj
        replace e5 : IntKind.i64.wrap ((t : Int) + lag) = (j : Int) := e5.trans hj
        have j0 : (0 : Int) ≤ (j : Int) := Int.natCast_nonneg _
        have j1 : (j : Int) < 64 := by omega
        have y0 := cell_later bk.out (HA.out t hlt)
        have y1 := cell_later bk.out (HD.out j (by omega))
        have je : ((j : Int)).toNat = j := rfl
        rw [je] at HS bj
        clear je hin hj
        have pb := prod_in _ _ bt bj
        have e1 : IntKind.i64.wrap (x t * y j) = x t * y j := IntWalk.i64_in _ (by omega)
        have e2 : IntKind.i64.wrap (s t + x t * y j) = s t + x t * y j := IntWalk.i64_in _ (by omega)
        clear pb bt bj it
        go_wp2_with (first | (go_at_call 17; (with_reducible refine (W1.out _).mono ?_); rintro e w' ⟨rfl, rfl⟩) | (go_at_call 17; (with_reducible refine (W2.out _).mono ?_); rintro e w' ⟨rfl, rfl⟩))
        go_quiet (fail)
        generalize hwq : World.drewN wr _ = wq
        have hbq : Below wr.heap.size wr wq := by rw [← hwq]; exact below_drewN (Below.refl _ _) _
        have bq : Hid (Below w.heap.size w wq) := Lib.hid (below_then bk.out hbq)
        clear hbq
        go_wp2
        go_roundw
        case rel => exact ⟨t + 1, by omega, by go_num, by rw [HS.out], bq⟩
        case measure => simp [intOf]; omega
      · have HS := Lib.hid (HN1.out t hin)
        have W1 := Lib.hid (fun w => bw_false ((t : Int) + lag) 0 63 hin w)
        clear hin
        go_wp2_with (go_at_call 17; (with_reducible refine (W1.out _).mono ?_); rintro e w' ⟨rfl, rfl⟩)
        go_roundw
        case rel => exact ⟨t + 1, by omega, by go_num, by rw [HS.out], bk⟩
        case measure => simp [intOf]; omega
    · obtain rfl : t = 64 := by omega
      go_wp2
      go_ret
      exact ⟨by rw [HL.out]; rfl, bk.out⟩
set_option maxRecDepth 100000 in
set_option maxHeartbeats 2000000 in
theorem rLagOf_any (F G : Nat → Int) (M : Nat) (w : World) (hF : ∀ i, i < 64 → -2047 ≤ F i ∧ F i ≤ 2047) (hG : ∀ i, i < 64 → -2047 ≤ G i ∧ G i ≤ 2047) (hM : M ≤ 32) :
    Calls Try.prog 36 #[.agg (vls 64 (fv F)).toArray, .agg (vls 64 (fv G)).toArray, .int .i64 (M : Int)] w fun e w' => e = .returned (.int .i64 (lg (lk F G) M).1) ∧ Below w.heap.size w w' := by
  have CR : Hid (∀ A B ca cd (lag : Int) w, -32 ≤ lag → lag ≤ 32 → InAt A 64 F w → InAt B 64 G w → Calls Try.prog 71 #[.slice A 64 ca, .slice B 64 cd, .int .i64 lag] w fun e w' => e = .returned (.int .i64 (lk F G lag)) ∧ Below w.heap.size w w') := Lib.hid (fun A B ca cd lag w l0 l1 hA hB => rCorr_any A B ca cd F G lag w hF hG hA hB l0 l1)
  have I1 := Lib.hid (fun w => rInts_any F (few_in hF) w)
  have I2 := Lib.hid (fun w => rInts_any G (few_in hG) w)
  clear hF hG
  generalize lk F G = f at *
  have m0 : (0 : Int) ≤ (M : Int) := Int.natCast_nonneg _
  have GS : Hid (∀ n : Nat, lg f (n + 1) = lgU f (lgU f (lg f n) (-((n : Int) + 1))) ((n : Int) + 1)) := fun n => rfl
  have G0 : Hid (lg f 0 = (0, f 0)) := (rfl : _ = _)
  go_enter Try.func36, Try.ntmps36
  go_wp2_with (first
    | ((with_reducible refine wpList_box_named rfl 26 _ rfl 3 rfl 64 (fv F) rfl ?_); intro w1 N1; have s1 := N1.size; have ca1 := N1.at'; have za1 := N1.free; have b1 : Hid (Below w.heap.size w w1) := Lib.hid N1.below; clear N1)
    | ((with_reducible refine wpList_box_named rfl 26 _ rfl 4 rfl 64 (fv G) rfl ?_); intro w2 N2; have s2 := N2.size; have ca2 := ca1.later N2.below; have za2 := za1.later ca1 N2.below; have cc2 := N2.at'; have zc2 := N2.free; have b2 : Hid (Below w.heap.size w w2) := Lib.hid (below_then b1.out N2.below); clear N2; rw [s1] at s2 cc2 zc2))
  refine wp_region_held_drew (S := fun w' => VAt w.heap.size 64 (fv F) w' ∧ VAt (w.heap.size + 1) 64 (fv G) w' ∧ Hid (Below w.heap.size w w')) (by kernel_rfl) ⟨ca2.drew, cc2.drew, Lib.hid b2.out.drew⟩ (fun hHeld => ?_)
  refine' takeH (i := 0) (d := 14) (v := .agg (vls 64 (fv F)).toArray) rfl rfl (by kernel_rfl) (by kernel_rfl) (by kernel_rfl) (fun _ _ _ h => h) (yieldsIf_load_mid (by first | kernel_rfl | rfl) _ _ rfl _ _ rfl (vls 64 (fv F)) _ (fun w' h => h.1.range) Try.underlying26 rfl (by rw [vls_length]; exact infoV)) hHeld ?_
  try simp only [Act.put, List.setIfInBounds_toArray, List.set_cons_zero, List.set_cons_succ]
  refine' takeH (i := 2) (d := 16) (v := .agg (vls 64 (fv G)).toArray) rfl rfl (by kernel_rfl) (by kernel_rfl) (by kernel_rfl) (fun _ _ _ h => h) (yieldsIf_load_mid (by first | kernel_rfl | rfl) _ _ rfl _ _ rfl (vls 64 (fv G)) _ (fun w' h => h.2.1.range) Try.underlying26 rfl (by rw [vls_length]; exact infoV)) hHeld ?_
  try simp only [Act.put, List.setIfInBounds_toArray, List.set_cons_zero, List.set_cons_succ]
  refine wpAnyH_ready (rs := [1]) (by kernel_rfl) (by simp) ?_
  refine AllReadyH.cons rfl (fun K hK => ?_) AllReadyH.nil
  go_simp
  (go_at_call 56; (with_reducible refine (I1.out _).mono ?_); rintro e w5 ⟨v1, rfl, hown1, hb5⟩)
  refine hK.out _ _ ⟨hHeld.1.later hb5, hHeld.2.1.later hb5, Lib.hid (below_then hHeld.2.2.out hb5)⟩ (fun hHeld => ?_)
  clear hK K
  try simp only [Act.put, List.setIfInBounds_toArray, List.set_cons_zero, List.set_cons_succ]
  obtain ⟨A1, c1, rfl, hI1⟩ := own_ints (fun i hi => mvs_get F 64 i hi) hown1
  clear hown1
  have HI1 := Lib.hid hI1; clear hI1
  refine wpAnyH_ready (rs := [3]) (by kernel_rfl) (by simp) ?_
  refine AllReadyH.cons rfl (fun K hK => ?_) AllReadyH.nil
  go_simp
  (go_at_call 56; (with_reducible refine (I2.out _).mono ?_); rintro e w6 ⟨v2, rfl, hown2, hb6⟩)
  refine hK.out _ _ ⟨hHeld.1.later hb6, hHeld.2.1.later hb6, Lib.hid (below_then hHeld.2.2.out hb6)⟩ (fun hHeld => ?_)
  clear hK K
  try simp only [Act.put, List.setIfInBounds_toArray, List.set_cons_zero, List.set_cons_succ]
  obtain ⟨A2, c2, rfl, hI2⟩ := own_ints (fun i hi => mvs_get G 64 i hi) hown2
  clear hown2
  have HI2 := Lib.hid hI2; clear hI2
  replace HI1 := Lib.hid (HI1.out.later hb6)
  clear hb5 hb6
  refine takeH (i := 4) (d := 7) (v := .slice A1 64 c1) rfl rfl (by kernel_rfl) (by kernel_rfl) (by kernel_rfl) (fun _ _ _ h => h) (Or.inl ⟨by first | kernel_rfl | rfl, ?_⟩) hHeld ?_
  · intro w' hSw; go_simp
  try simp only [Act.put, List.setIfInBounds_toArray, List.set_cons_zero, List.set_cons_succ]
  refine takeH (i := 5) (d := 8) (v := .slice A2 64 c2) rfl rfl (by kernel_rfl) (by kernel_rfl) (by kernel_rfl) (fun _ _ _ h => h) (Or.inl ⟨by first | kernel_rfl | rfl, ?_⟩) hHeld ?_
  · intro w' hSw; go_simp
  try simp only [Act.put, List.setIfInBounds_toArray, List.set_cons_zero, List.set_cons_succ]
  refine wpAnyH_done (by kernel_rfl) ?_ _
  have b7 := hHeld.2.2
  clear hHeld
  try clear ca1 za1 ca2 za2 cc2 zc2
  go_wp2_with (go_at_call 71; (with_reducible refine (CR.out _ _ _ _ 0 _ (by decide) (by decide) HI1.out HI2.out).mono ?_); rintro e W2 ⟨rfl, hb2⟩; have J1 := Lib.hid (HI1.out.later hb2); have J2 := Lib.hid (HI2.out.later hb2); have b8 : Hid (Below w.heap.size w W2) := Lib.hid (below_then b7.out hb2); clear hb2)
  clear b7 HI1 HI2
  go_loopw [9, 10, 11] (fun s9 s10 s11 wr => ∃ n : Nat, n ≤ M ∧ s11 = .int .i64 ((n : Int) + 1) ∧ s9 = .int .i64 (lg f n).1 ∧ s10 = .int .i64 (lg f n).2 ∧ Hid (InAt A1 64 F wr) ∧ Hid (InAt A2 64 G wr) ∧ Hid (Below w.heap.size w wr)) (fun _ _ s11 _ => M + 1 - (intOf s11).toNat)
  case atStart => exact ⟨0, by omega, rfl, by rw [G0.out], by rw [G0.out], J1, J2, b8⟩
  case round =>
    clear J1 J2 b8
    obtain ⟨n, hn, rfl, rfl, rfl, I1k, I2k, bk⟩ := hrel
    have GN := Lib.hid (GS.out n)
    have n0 : (0 : Int) ≤ (n : Int) := Int.natCast_nonneg _
    by_cases hlt : n < M
    · have n1 : (n : Int) + 1 ≤ (M : Int) := by omega
      have CRm := Lib.hid (fun w h1 h2 => CR.out A1 A2 c1 c2 (-((n : Int) + 1)) w (by omega) (by omega) h1 h2)
      have CRp := Lib.hid (fun w h1 h2 => CR.out A1 A2 c1 c2 ((n : Int) + 1) w (by omega) (by omega) h1 h2)
      generalize lg f n = p at *
      obtain ⟨A, B⟩ := p
      dsimp only at *
      by_cases h1 : B < f (-((n : Int) + 1))
      · by_cases h2 : f (-((n : Int) + 1)) < f ((n : Int) + 1)
        · have hd : decide (B < f (-((n : Int) + 1))) = true := by simpa using h1
          have hd2 : decide (f (-((n : Int) + 1)) < f ((n : Int) + 1)) = true := by simpa using h2
          have GN2 : Hid (lg f (n + 1) = ((n : Int) + 1, f ((n : Int) + 1))) := by show _ = _; rw [GN.out]; unfold lgU; rw [if_pos h1]; dsimp only; rw [if_pos h2]
          clear h1 h2 GN
          go_wp2_with (first | (go_at_call 71; (with_reducible refine (CRm.out _ I1k.out I2k.out).mono ?_); rintro e W5 ⟨rfl, hb5⟩; have J1 := Lib.hid (I1k.out.later hb5); have J2 := Lib.hid (I2k.out.later hb5); have bk5 : Hid (Below w.heap.size w W5) := Lib.hid (below_then bk.out hb5); clear hb5) | (go_at_call 71; (with_reducible refine (CRp.out _ J1.out J2.out).mono ?_); rintro e W6 ⟨rfl, hb6⟩; have L1 := Lib.hid (J1.out.later hb6); have L2 := Lib.hid (J2.out.later hb6); have bk6 : Hid (Below w.heap.size w W6) := Lib.hid (below_then bk5.out hb6); clear hb6))
          go_roundw
          case rel => exact ⟨n + 1, by omega, by go_num, by rw [GN2.out], by rw [GN2.out], L1, L2, bk6⟩
          case measure => simp [intOf]; omega
        · have hd : decide (B < f (-((n : Int) + 1))) = true := by simpa using h1
          have hd2 : decide (f (-((n : Int) + 1)) < f ((n : Int) + 1)) = false := by simpa using h2
          have GN2 : Hid (lg f (n + 1) = (-((n : Int) + 1), f (-((n : Int) + 1)))) := by show _ = _; rw [GN.out]; unfold lgU; rw [if_pos h1]; dsimp only; rw [if_neg h2]
          clear h1 h2 GN
          go_wp2_with (first | (go_at_call 71; (with_reducible refine (CRm.out _ I1k.out I2k.out).mono ?_); rintro e W5 ⟨rfl, hb5⟩; have J1 := Lib.hid (I1k.out.later hb5); have J2 := Lib.hid (I2k.out.later hb5); have bk5 : Hid (Below w.heap.size w W5) := Lib.hid (below_then bk.out hb5); clear hb5) | (go_at_call 71; (with_reducible refine (CRp.out _ J1.out J2.out).mono ?_); rintro e W6 ⟨rfl, hb6⟩; have L1 := Lib.hid (J1.out.later hb6); have L2 := Lib.hid (J2.out.later hb6); have bk6 : Hid (Below w.heap.size w W6) := Lib.hid (below_then bk5.out hb6); clear hb6))
          go_roundw
          case rel => exact ⟨n + 1, by omega, by go_num, by rw [GN2.out], by rw [GN2.out], L1, L2, bk6⟩
          case measure => simp [intOf]; omega
      · by_cases h2 : B < f ((n : Int) + 1)
        · have hd : decide (B < f (-((n : Int) + 1))) = false := by simpa using h1
          have hd2 : decide (B < f ((n : Int) + 1)) = true := by simpa using h2
          have GN2 : Hid (lg f (n + 1) = ((n : Int) + 1, f ((n : Int) + 1))) := by show _ = _; rw [GN.out]; unfold lgU; rw [if_neg h1]; dsimp only; rw [if_pos h2]
          clear h1 h2 GN
          go_wp2_with (first | (go_at_call 71; (with_reducible refine (CRm.out _ I1k.out I2k.out).mono ?_); rintro e W5 ⟨rfl, hb5⟩; have J1 := Lib.hid (I1k.out.later hb5); have J2 := Lib.hid (I2k.out.later hb5); have bk5 : Hid (Below w.heap.size w W5) := Lib.hid (below_then bk.out hb5); clear hb5) | (go_at_call 71; (with_reducible refine (CRp.out _ J1.out J2.out).mono ?_); rintro e W6 ⟨rfl, hb6⟩; have L1 := Lib.hid (J1.out.later hb6); have L2 := Lib.hid (J2.out.later hb6); have bk6 : Hid (Below w.heap.size w W6) := Lib.hid (below_then bk5.out hb6); clear hb6))
          go_roundw
          case rel => exact ⟨n + 1, by omega, by go_num, by rw [GN2.out], by rw [GN2.out], L1, L2, bk6⟩
          case measure => simp [intOf]; omega
        · have hd : decide (B < f (-((n : Int) + 1))) = false := by simpa using h1
          have hd2 : decide (B < f ((n : Int) + 1)) = false := by simpa using h2
          have GN2 : Hid (lg f (n + 1) = (A, B)) := by show _ = _; rw [GN.out]; unfold lgU; rw [if_neg h1]; dsimp only; rw [if_neg h2]
          clear h1 h2 GN
          go_wp2_with (first | (go_at_call 71; (with_reducible refine (CRm.out _ I1k.out I2k.out).mono ?_); rintro e W5 ⟨rfl, hb5⟩; have J1 := Lib.hid (I1k.out.later hb5); have J2 := Lib.hid (I2k.out.later hb5); have bk5 : Hid (Below w.heap.size w W5) := Lib.hid (below_then bk.out hb5); clear hb5) | (go_at_call 71; (with_reducible refine (CRp.out _ J1.out J2.out).mono ?_); rintro e W6 ⟨rfl, hb6⟩; have L1 := Lib.hid (J1.out.later hb6); have L2 := Lib.hid (J2.out.later hb6); have bk6 : Hid (Below w.heap.size w W6) := Lib.hid (below_then bk5.out hb6); clear hb6))
          go_roundw
          case rel => exact ⟨n + 1, by omega, by go_num, by rw [GN2.out], by rw [GN2.out], L1, L2, bk6⟩
          case measure => simp [intOf]; omega
    · obtain rfl : n = M := by omega
      have n1 : ¬ (n : Int) + 1 ≤ (n : Int) := by omega
      go_wp2
      go_ret
      exact ⟨rfl, bk.out⟩
end Go.Proofs.Ytoieemgdkpnbfaa
