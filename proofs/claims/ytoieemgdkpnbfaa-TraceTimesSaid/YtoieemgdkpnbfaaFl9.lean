/- the lag of two traces -/
import Derived.Test.YtoieemgdkpnbfaaFl8
namespace Go.Proofs.Ytoieemgdkpnbfaa
open Go.RowKit RayM
set_option linter.unusedSimpArgs false
set_option linter.unusedVariables false
/-- the lag and the sum that are found so far -/
def lgU (s : Int → Int) (p : Int × Int) (lag : Int) : Int × Int := if p.2 < s lag then (lag, s lag) else p
def lg (s : Int → Int) : Nat → Int × Int
  | 0 => (0, s 0)
  | n + 1 => lgU s (lgU s (lg s n) (-((n : Int) + 1))) ((n : Int) + 1)
def lgE (a c : Nat → Int) (most : Int) : Int := fst [ctE a, ctE c, unl (inB most 0 32) 2]
def lgR (a c : Nat → Int) (most : Int) : Int := if lgE a c most = 0 then (lg (lk a c) most.toNat).1 else 0
theorem info1i : (Try.prog.info? 3).map (·.size) = some 1 := by kernel_rfl
theorem load_run (l : Nat → Int) (b : Nat) (w' : World) (h : VAt b 64 (fv l) w') : (Instr.loadAt 26 (.pointer (some ⟨b, 0, none⟩))).run Try.prog w' = .ok (.agg (vls 64 (fv l)).toArray) w' :=
  run_loadAt_mid w' b 0 26 (vls 64 (fv l)) _ h.range Try.underlying26 rfl (by rw [vls_length]; exact infoV)
theorem range_alloc {w : World} {b n : Nat} {f : Nat → Value} (h : w.rangeAt b 0 (vls n f)) (o : Obj) : (w.alloc o).rangeAt b 0 (vls n f) := World.rangeAt_alloc h o
theorem range_drew {w : World} {b n : Nat} {f : Nat → Value} (h : w.rangeAt b 0 (vls n f)) : w.drew.rangeAt b 0 (vls n f) := (World.rangeAt_drew _ _ _ _).2 h
theorem range_later {w w' : World} {b n : Nat} {f : Nat → Value} (h : w.rangeAt b 0 (vls n f)) (hb : Below w.heap.size w w') : w'.rangeAt b 0 (vls n f) := ((VAt.of_range h).later hb).range
theorem fst3 (a b c : Int) : fst [a, b, c] = 0 ↔ a = 0 ∧ b = 0 ∧ c = 0 := by rw [fst_zero]; simp
set_option maxRecDepth 100000 in
set_option maxHeartbeats 1000000 in
theorem lagOf_any (a c : Nat → Int) (most : Int) (w : World) (ha : Few a) (hc : Few c) :
    Calls Try.prog 35 #[.agg (vls 64 (fv a)).toArray, .agg (vls 64 (fv c)).toArray, .int .i64 most] w fun e w' => e = .returned (.tuple #[.int .i64 (lgR a c most), .int .i64 (lgE a c most)]) ∧ Below w.heap.size w w' := by
  have HA := Lib.hid (fun w => traceErr_v a ha w)
  have HC := Lib.hid (fun w => traceErr_v c hc w)
  have EF : Hid (fst [ctE a, ctE c, unl (inB most 0 32) 2] = lgE a c most) := (rfl : _ = _)
  have HK : Hid (ctE a = 0 → ctE c = 0 → ∀ lag w, -32 ≤ lag → lag ≤ 32 → Calls Try.prog 70 #[.agg (vls 64 (fv a)).toArray, .agg (vls 64 (fv c)).toArray, .int .i64 lag] w fun e w' => e = .returned (.int .i64 (lk a c lag)) ∧ Below w.heap.size w w') := fun h1 h2 lag w l0 l1 => likeness_any a c lag w ((ctE_zero a).1 h1) ((ctE_zero c).1 h2) l0 l1
  have EZ : Hid (lgE a c most = 0 → ctE a = 0 ∧ ctE c = 0 ∧ 0 ≤ most ∧ most ≤ 32) := fun h => by
    obtain ⟨h1, h2, h3⟩ := (fst3 _ _ _).1 h
    exact ⟨h1, h2, (unl_inB _ _ _ _ (by decide)).1 h3⟩
  have RZ : Hid (lgE a c most = 0 → lgR a c most = (lg (lk a c) most.toNat).1) := fun h => by unfold lgR; rw [if_pos h]
  have RN : Hid (lgE a c most ≠ 0 → lgR a c most = 0) := fun h => by unfold lgR; rw [if_neg h]
  generalize lgR a c most = R0 at *
  generalize lk a c = s at *
  generalize lgE a c most = X0 at *
  generalize ctE a = E1 at *
  generalize ctE c = E2 at *
  clear ha hc
  go_enter Try.func35, Try.ntmps35
  go_wp2_with (first
    | ((with_reducible refine wpList_box_named rfl 26 _ rfl 3 rfl 64 (fv a) rfl ?_); intro w1 N1; have s1 := N1.size; have ca1 := N1.at'; have za1 := N1.free; have b1 : Hid (Below w.heap.size w w1) := Lib.hid N1.below; clear N1)
    | ((with_reducible refine wpList_box_named rfl 26 _ rfl 4 rfl 64 (fv c) rfl ?_); intro w2 N2; have s2 := N2.size; have ca2 := ca1.later N2.below; have za2 := za1.later ca1 N2.below; have cc2 := N2.at'; have zc2 := N2.free; have b2 : Hid (Below w.heap.size w w2) := Lib.hid (below_then b1.out N2.below); clear N2; rw [s1] at s2 cc2 zc2))
  have bb2 := b2.out
  have ra := ca2.range
  have rc := cc2.range
  have hu := Try.underlying26
  have hi1 : (Try.prog.info? 26).map (·.size) = some (vls 64 (fv a)).length := by rw [vls_length]; exact infoV
  have hi2 : (Try.prog.info? 26).map (·.size) = some (vls 64 (fv c)).length := by rw [vls_length]; exact infoV
  refine wp_region_held_drew (S := fun w' => w'.rangeAt w.heap.size 0 (vls 64 (fv a)) ∧ w'.rangeAt (w.heap.size + 1) 0 (vls 64 (fv c)) ∧ Below w.heap.size w w') (by kernel_rfl) ⟨range_drew ra, range_drew rc, bb2.drew⟩ (fun hHeld => ?_)
  refine' wpAnyH_take (i := 0) (v := .agg (vls 64 (fv a)).toArray) rfl (by kernel_rfl) (by kernel_rfl) (by kernel_rfl) (fun _ _ _ h => h) (yieldsIf_load_mid (by rfl) _ _ rfl _ _ rfl (vls 64 (fv a)) _ (fun w' h => h.1) hu rfl hi1) hHeld ?_
  try simp only [Act.put, List.setIfInBounds_toArray, List.set_cons_zero, List.set_cons_succ]
  refine' wpAnyH_take (i := 2) (v := .agg (vls 64 (fv c)).toArray) rfl (by kernel_rfl) (by kernel_rfl) (by kernel_rfl) (fun _ _ _ h => h) (yieldsIf_load_mid (by rfl) _ _ rfl _ _ rfl (vls 64 (fv c)) _ (fun w' h => h.2.1) hu rfl hi2) hHeld ?_
  try simp only [Act.put, List.setIfInBounds_toArray, List.set_cons_zero, List.set_cons_succ]
  refine wpAnyH_take (i := 4) (v := .int .i64 most) rfl (by kernel_rfl) (by kernel_rfl) (by kernel_rfl) (fun _ _ _ h => h) (Or.inl ⟨by rfl, ?_⟩) hHeld ?_
  · intro w' hSw; go_simp
  try simp only [Act.put, List.setIfInBounds_toArray, List.set_cons_zero, List.set_cons_succ]
  refine wpAnyH_ready (rs := [1]) (by kernel_rfl) (by simp) ?_
  refine AllReadyH.cons rfl (fun K hK => ?_) AllReadyH.nil
  go_simp
  (go_at_call 51; (with_reducible refine (HA.out _).mono ?_); rintro e w' ⟨rfl, hb⟩)
  refine hK.out _ _ ⟨range_later hHeld.1 hb, range_later hHeld.2.1 hb, below_then hHeld.2.2 hb⟩ (fun hHeld => ?_)
  clear hK K
  try simp only [Act.put, List.setIfInBounds_toArray, List.set_cons_zero, List.set_cons_succ]
  refine wpAnyH_ready (rs := [3]) (by kernel_rfl) (by simp) ?_
  refine AllReadyH.cons rfl (fun K hK => ?_) AllReadyH.nil
  go_simp
  (go_at_call 51; (with_reducible refine (HC.out _).mono ?_); rintro e w' ⟨rfl, hb⟩)
  refine hK.out _ _ ⟨range_later hHeld.1 hb, range_later hHeld.2.1 hb, below_then hHeld.2.2 hb⟩ (fun hHeld => ?_)
  clear hK K
  try simp only [Act.put, List.setIfInBounds_toArray, List.set_cons_zero, List.set_cons_succ]
  refine wpAnyH_ready (rs := [5]) (by kernel_rfl) (by simp) ?_
  refine AllReadyH.cons rfl (fun K hK => ?_) AllReadyH.nil
  go_simp
  (go_at_call 54; (with_reducible refine (isWithin_any _ _ _ _).mono ?_); rintro e w' ⟨rfl, rfl⟩)
  refine hK.out _ _ ⟨hHeld.1, hHeld.2.1, hHeld.2.2⟩ (fun hHeld => ?_)
  clear hK K
  try simp only [Act.put, List.setIfInBounds_toArray, List.set_cons_zero, List.set_cons_succ]
  refine wpAnyH_ready (rs := [6]) (by kernel_rfl) (by simp) ?_
  refine AllReadyH.cons rfl (fun K hK => ?_) AllReadyH.nil
  go_simp
  refine hK.out _ _ ⟨range_alloc hHeld.1 _, range_alloc hHeld.2.1 _, below_alloc_top hHeld.2.2 _⟩ (fun hHeld => ?_)
  clear hK K
  try simp only [Act.put, List.setIfInBounds_toArray, List.set_cons_zero, List.set_cons_succ]
  refine wpAnyH_ready (rs := [7]) (by kernel_rfl) (by simp) ?_
  refine AllReadyH.cons rfl (fun K hK => ?_) AllReadyH.nil
  go_simp
  (go_at_call 50; refine (firstError_any _ [E1, E2, unl (inB most 0 32) 2] _ (by simp) (by first | exact cells_drew _ _ (by first | rfl | assumption | simp) _ _ | exact cells_new _ _ (by first | rfl | assumption | simp) _ _)).mono ?_; rw [EF.out]; rintro e w' ⟨rfl, rfl⟩)
  refine hK.out _ _ ⟨hHeld.1, hHeld.2.1, hHeld.2.2⟩ (fun hHeld => ?_)
  clear hK K
  try simp only [Act.put, List.setIfInBounds_toArray, List.set_cons_zero, List.set_cons_succ]
  refine wpAnyH_ready (rs := [8]) (by kernel_rfl) (by simp) ?_
  refine AllReadyH.cons rfl (fun K hK => ?_) AllReadyH.nil
  go_simp
  refine hK.out _ _ ⟨hHeld.1, hHeld.2.1, hHeld.2.2⟩ (fun hHeld => ?_)
  clear hK K
  try simp only [Act.put, List.setIfInBounds_toArray, List.set_cons_zero, List.set_cons_succ]
  refine wpAnyH_done (by kernel_rfl) ?_ _
  generalize w'.alloc (Obj.cells #[.int .i64 E1, .int .i64 E2, .int .i64 (unl (inB most 0 32) 2)] 28) = W1 at *
  have xa := VAt.of_range hHeld.1
  have xc := VAt.of_range hHeld.2.1
  have xb := Lib.hid hHeld.2.2
  clear hHeld b1 b2 ca1 za1 ca2 za2 cc2 zc2 s1 s2 bb2 ra rc hu hi1 hi2 HA HC EF
  by_cases hz : X0 = 0
  · obtain ⟨rfl, rfl, m0, m1⟩ := EZ.out hz
    subst hz
    have LK := Lib.hid (HK.out rfl rfl)
    clear HK EZ
    obtain ⟨M, rfl⟩ : ∃ M : Nat, most = (M : Int) := ⟨most.toNat, by omega⟩
    have hM : M ≤ 32 := by omega
    have hR : R0 = (lg s M).1 := RZ.out rfl
    have HR := Lib.hid hR; clear hR RZ RN
    have GS : Hid (∀ n : Nat, lg s (n + 1) = lgU s (lgU s (lg s n) (-((n : Int) + 1))) ((n : Int) + 1)) := fun n => rfl
    have G0 : Hid (lg s 0 = (0, s 0)) := (rfl : _ = _)
    go_wp2_with (first
      | (with_reducible refine wpList_load_at rfl 26 _ rfl _ 64 (fv a) rfl xa _ Try.underlying26 rfl infoV ?_)
      | (with_reducible refine wpList_load_at rfl 26 _ rfl _ 64 (fv c) rfl xc _ Try.underlying26 rfl infoV ?_)
      | (go_at_call 70; (with_reducible refine (LK.out 0 _ (by decide) (by decide)).mono ?_); rintro e W2 ⟨rfl, hb2⟩; have xa2 := xa.later hb2; have xc2 := xc.later hb2; have xb2 : Hid (Below w.heap.size w W2) := Lib.hid (below_then xb.out hb2); clear hb2))
    go_loopw [9, 10, 11] (fun s9 s10 s11 wr => ∃ n : Nat, n ≤ M ∧ s11 = .int .i64 ((n : Int) + 1) ∧ s9 = .int .i64 (lg s n).1 ∧ s10 = .int .i64 (lg s n).2 ∧ VAt w.heap.size 64 (fv a) wr ∧ VAt (w.heap.size + 1) 64 (fv c) wr ∧ Hid (Below w.heap.size w wr)) (fun _ _ s11 _ => M + 1 - (intOf s11).toNat)
    case atStart => exact ⟨0, by omega, rfl, by rw [G0.out], by rw [G0.out], xa2, xc2, xb2⟩
    case round =>
      clear xa2 xc2 xb2 xa xc xb
      obtain ⟨n, hn, rfl, rfl, rfl, qa, qc, bk⟩ := hrel
      have GN := Lib.hid (GS.out n)
      have n0 : (0 : Int) ≤ (n : Int) := Int.natCast_nonneg _
      by_cases hlt : n < M
      · have n1 : (n : Int) + 1 ≤ (M : Int) := by omega
        have LKm := Lib.hid (fun w => LK.out (-((n : Int) + 1)) w (by omega) (by omega))
        have LKp := Lib.hid (fun w => LK.out ((n : Int) + 1) w (by omega) (by omega))
        generalize lg s n = p at *
        obtain ⟨A, B⟩ := p
        dsimp only at *
        obtain ⟨P1, hP1⟩ : ∃ P, P = lgU s (A, B) (-((n : Int) + 1)) := ⟨_, rfl⟩
        obtain ⟨P2, hP2⟩ : ∃ P, P = lgU s P1 ((n : Int) + 1) := ⟨_, rfl⟩
        have GN2 : Hid (lg s (n + 1) = P2) := by show _ = _; rw [GN.out, hP2, hP1]
        have HP1 := Lib.hid hP1; have HP2 := Lib.hid hP2; clear hP1 hP2 GN
        go_wp2
        go_loopw [9, 10, 38] (fun s9 s10 s38 wq => ∃ (j : Nat) (P : Int × Int), j ≤ 2 ∧ s38 = .int .i64 (j : Int) ∧ s9 = .int .i64 P.1 ∧ s10 = .int .i64 P.2 ∧ (j = 0 → P = (A, B)) ∧ (j = 1 → P = P1) ∧ (j = 2 → P = P2) ∧ VAt w.heap.size 64 (fv a) wq ∧ VAt (w.heap.size + 1) 64 (fv c) wq ∧ Hid (Below w.heap.size w wq)) (fun _ _ s38 _ => 2 - (intOf s38).toNat)
        case atStart => exact ⟨0, (A, B), by omega, rfl, rfl, rfl, fun _ => rfl, fun h => absurd h (by decide), fun h => absurd h (by decide), qa, qc, bk⟩
        case round =>
          clear qa qc bk
          obtain ⟨j, P, hj, rfl, rfl, rfl, h0, h1, h2, ra, rc, rk⟩ := hrel
          have hjc : j = 0 ∨ j = 1 ∨ j = 2 := by omega
          rcases hjc with rfl | rfl | rfl
          · rw [h0 rfl]
            clear h0 h1 h2
            dsimp only
            have hv : (#[Value.int .i64 (-((n : Int) + 1)), .int .i64 ((n : Int) + 1)] : Array Value)[(((0 : Nat) : Int)).toNat]? = some (.int .i64 (-((n : Int) + 1))) := rfl
            have i0 : (0 : Int) ≤ ((0 : Nat) : Int) := by decide
            have i1 : ((0 : Nat) : Int) < ((2 : Nat) : Int) := by decide
            by_cases hg : B < s (-((n : Int) + 1))
            · have HE : Hid (P1 = (-((n : Int) + 1), s (-((n : Int) + 1)))) := by show _ = _; rw [HP1.out]; unfold lgU; rw [if_pos hg]
              have hd : decide (B < s (-((n : Int) + 1))) = true := by simpa using hg
              clear hg
              go_wp2_with (first
                | (with_reducible refine wpList_index_lit rfl 108 _ _ rfl 2 #[.int .i64 (-((n : Int) + 1)), .int .i64 ((n : Int) + 1)] _ rfl rfl 3 Try.underlying108 _ Try.underlying3 rfl info1i i0 i1 _ hv ?_)
                | (with_reducible refine wpList_load_at rfl 26 _ rfl _ 64 (fv a) rfl ra _ Try.underlying26 rfl infoV ?_)
                | (with_reducible refine wpList_load_at rfl 26 _ rfl _ 64 (fv c) rfl rc _ Try.underlying26 rfl infoV ?_)
                | (go_at_call 70; (with_reducible refine (LKm.out _).mono ?_); rintro e W5 ⟨rfl, hb5⟩; have ra5 := ra.later hb5; have rc5 := rc.later hb5; have rk5 : Hid (Below w.heap.size w W5) := Lib.hid (below_then rk.out hb5); clear hb5))
              go_roundw
              case rel => exact ⟨1, P1, by omega, rfl, by rw [HE.out], by rw [HE.out], fun h => absurd h (by decide), fun _ => rfl, fun h => absurd h (by decide), ra5, rc5, rk5⟩
              case measure => simp [intOf]
            · have HE : Hid (P1 = (A, B)) := by show _ = _; rw [HP1.out]; unfold lgU; rw [if_neg hg]
              have hd : decide (B < s (-((n : Int) + 1))) = false := by simpa using hg
              clear hg
              go_wp2_with (first
                | (with_reducible refine wpList_index_lit rfl 108 _ _ rfl 2 #[.int .i64 (-((n : Int) + 1)), .int .i64 ((n : Int) + 1)] _ rfl rfl 3 Try.underlying108 _ Try.underlying3 rfl info1i i0 i1 _ hv ?_)
                | (with_reducible refine wpList_load_at rfl 26 _ rfl _ 64 (fv a) rfl ra _ Try.underlying26 rfl infoV ?_)
                | (with_reducible refine wpList_load_at rfl 26 _ rfl _ 64 (fv c) rfl rc _ Try.underlying26 rfl infoV ?_)
                | (go_at_call 70; (with_reducible refine (LKm.out _).mono ?_); rintro e W5 ⟨rfl, hb5⟩; have ra5 := ra.later hb5; have rc5 := rc.later hb5; have rk5 : Hid (Below w.heap.size w W5) := Lib.hid (below_then rk.out hb5); clear hb5))
              go_roundw
              case rel => exact ⟨1, P1, by omega, rfl, by rw [HE.out], by rw [HE.out], fun h => absurd h (by decide), fun _ => rfl, fun h => absurd h (by decide), ra5, rc5, rk5⟩
              case measure => simp [intOf]
          · rw [h1 rfl]
            clear h0 h1 h2
            obtain ⟨C, D⟩ := P1
            dsimp only
            have hv : (#[Value.int .i64 (-((n : Int) + 1)), .int .i64 ((n : Int) + 1)] : Array Value)[(((1 : Nat) : Int)).toNat]? = some (.int .i64 ((n : Int) + 1)) := rfl
            have i0 : (0 : Int) ≤ ((1 : Nat) : Int) := by decide
            have i1 : ((1 : Nat) : Int) < ((2 : Nat) : Int) := by decide
            by_cases hg : D < s ((n : Int) + 1)
            · have HE : Hid (P2 = (((n : Int) + 1), s ((n : Int) + 1))) := by show _ = _; rw [HP2.out]; unfold lgU; rw [if_pos hg]
              have hd : decide (D < s ((n : Int) + 1)) = true := by simpa using hg
              clear hg
              go_wp2_with (first
                | (with_reducible refine wpList_index_lit rfl 108 _ _ rfl 2 #[.int .i64 (-((n : Int) + 1)), .int .i64 ((n : Int) + 1)] _ rfl rfl 3 Try.underlying108 _ Try.underlying3 rfl info1i i0 i1 _ hv ?_)
                | (with_reducible refine wpList_load_at rfl 26 _ rfl _ 64 (fv a) rfl ra _ Try.underlying26 rfl infoV ?_)
                | (with_reducible refine wpList_load_at rfl 26 _ rfl _ 64 (fv c) rfl rc _ Try.underlying26 rfl infoV ?_)
                | (go_at_call 70; (with_reducible refine (LKp.out _).mono ?_); rintro e W5 ⟨rfl, hb5⟩; have ra5 := ra.later hb5; have rc5 := rc.later hb5; have rk5 : Hid (Below w.heap.size w W5) := Lib.hid (below_then rk.out hb5); clear hb5))
              go_roundw
              case rel => exact ⟨2, P2, by omega, rfl, by rw [HE.out], by rw [HE.out], fun h => absurd h (by decide), fun h => absurd h (by decide), fun _ => rfl, ra5, rc5, rk5⟩
              case measure => simp [intOf]
            · have HE : Hid (P2 = (C, D)) := by show _ = _; rw [HP2.out]; unfold lgU; rw [if_neg hg]
              have hd : decide (D < s ((n : Int) + 1)) = false := by simpa using hg
              clear hg
              go_wp2_with (first
                | (with_reducible refine wpList_index_lit rfl 108 _ _ rfl 2 #[.int .i64 (-((n : Int) + 1)), .int .i64 ((n : Int) + 1)] _ rfl rfl 3 Try.underlying108 _ Try.underlying3 rfl info1i i0 i1 _ hv ?_)
                | (with_reducible refine wpList_load_at rfl 26 _ rfl _ 64 (fv a) rfl ra _ Try.underlying26 rfl infoV ?_)
                | (with_reducible refine wpList_load_at rfl 26 _ rfl _ 64 (fv c) rfl rc _ Try.underlying26 rfl infoV ?_)
                | (go_at_call 70; (with_reducible refine (LKp.out _).mono ?_); rintro e W5 ⟨rfl, hb5⟩; have ra5 := ra.later hb5; have rc5 := rc.later hb5; have rk5 : Hid (Below w.heap.size w W5) := Lib.hid (below_then rk.out hb5); clear hb5))
              go_roundw
              case rel => exact ⟨2, P2, by omega, rfl, by rw [HE.out], by rw [HE.out], fun h => absurd h (by decide), fun h => absurd h (by decide), fun _ => rfl, ra5, rc5, rk5⟩
              case measure => simp [intOf]
          · rw [h2 rfl]
            clear h0 h1 h2
            go_wp2
            go_roundw
            case rel => exact ⟨n + 1, by omega, by go_num, by rw [GN2.out], by rw [GN2.out], ra, rc, rk⟩
            case measure => simp [intOf]; omega
      · obtain rfl : n = M := by omega
        have n1 : ¬ (n : Int) + 1 ≤ (n : Int) := by omega
        go_wp2
        go_ret2
        exact ⟨by rw [HR.out]; rfl, bk.out⟩
  · have nz : (X0 != 0) = true := by simpa using hz
    obtain rfl : R0 = 0 := RN.out hz
    clear hz RN RZ
    go_wp2
    go_ret2
    exact ⟨rfl, xb.out⟩
end Go.Proofs.Ytoieemgdkpnbfaa
