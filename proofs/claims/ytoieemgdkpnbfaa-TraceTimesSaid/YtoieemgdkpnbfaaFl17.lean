/- the gate of times, as the reference has it -/
import Derived.Test.YtoieemgdkpnbfaaFl16
namespace Go.Proofs.Ytoieemgdkpnbfaa
open Go.RowKit RayM
set_option linter.unusedSimpArgs false
set_option linter.unusedVariables false
theorem tiE_two (t : Int) : tiE t = 0 ∨ tiE t = 2 := by unfold tiE unl; split <;> simp
set_option maxRecDepth 100000 in
set_option maxHeartbeats 8000000 in
theorem rGateOf_any (f s lo hi : Int) (w : World) (h : saE f s = 0) :
    Calls Try.prog 45 #[.agg #[.int .i64 f, .int .i64 s], .agg #[.int .i64 lo, .int .i64 hi]] w fun e w' => e = .returned (.tuple #[.agg #[.int .i64 (gtA f s lo hi), .int .i64 (gtB f s lo hi)], .int .i64 (gtR f s lo hi)]) ∧ Below w.heap.size w w' := by
  obtain ⟨⟨f0, f1⟩, k0, k1⟩ := (saE_zero f s).1 h
  have HL := Lib.hid (fun w => rTimeErr_any lo w)
  have HH := Lib.hid (fun w => rTimeErr_any hi w)
  have RZ : Hid (gtE f s lo hi ≠ 0 → gtA f s lo hi = 0 ∧ gtB f s lo hi = 0 ∧ gtR f s lo hi = gtE f s lo hi) := fun h => by
    have h2 := gtR_E h
    have h3 : gtR f s lo hi ≠ 0 := by rw [h2]; exact h
    exact ⟨by unfold gtA; rw [if_neg h3], by unfold gtB; rw [if_neg h3], h2⟩
  have RN : Hid (gtE f s lo hi = 0 → gtT f s hi < gtF f s lo → gtA f s lo hi = 0 ∧ gtB f s lo hi = 0 ∧ gtR f s lo hi = 12) := fun h h1 => by
    have h2 : gtR f s lo hi = 12 := by unfold gtR; rw [if_pos h, if_pos h1]
    have h3 : gtR f s lo hi ≠ 0 := by rw [h2]; decide
    exact ⟨by unfold gtA; rw [if_neg h3], by unfold gtB; rw [if_neg h3], h2⟩
  have RO : Hid (gtE f s lo hi = 0 → ¬ gtT f s hi < gtF f s lo → gtA f s lo hi = gtF f s lo ∧ gtB f s lo hi = gtT f s hi ∧ gtR f s lo hi = 0) := fun h h1 => by
    have h2 : gtR f s lo hi = 0 := by unfold gtR; rw [if_pos h, if_neg h1]
    exact ⟨by unfold gtA; rw [if_pos h2], by unfold gtB; rw [if_pos h2], h2⟩
  have XE : Hid (gtE f s lo hi = fst [tiE lo, tiE hi, unl (decide (lo ≤ hi)) 9]) := by
    show fst [saE f s, tiE lo, tiE hi, unl (decide (lo ≤ hi)) 9] = _
    rw [h]; rfl
  have L2 := tiE_two lo
  have H2 := tiE_two hi
  have LZ := Lib.hid (tiE_zero lo)
  have HZ := Lib.hid (tiE_zero hi)
  have GF : Hid (gtF f s lo = max 0 (cdiv (lo - f) s)) := (rfl : _ = _)
  have GT : Hid (gtT f s hi = min 60 ((hi - f) / s)) := (rfl : _ = _)
  generalize gtR f s lo hi = R0 at *
  generalize gtA f s lo hi = A0 at *
  generalize gtB f s lo hi = B0 at *
  generalize gtE f s lo hi = X0 at *
  generalize tiE lo = u1 at *
  generalize tiE hi = u2 at *
  clear h
  rcases L2 with rfl | rfl
  · rcases H2 with rfl | rfl
    · by_cases hle : lo ≤ hi
      · have hx : X0 = 0 := by rw [XE.out]; simp [fst, unl, hle]
        have RN2 := Lib.hid (RN.out hx)
        have RO2 := Lib.hid (RO.out hx)
        have hgt : ¬ hi < lo := by omega
        obtain ⟨l0, l1⟩ := LZ.out.1 rfl
        obtain ⟨h0, h1⟩ := HZ.out.1 rfl
        clear RN RO RZ XE hx LZ HZ
        have e5 : IntKind.i64.wrap (lo - f) = lo - f := IntWalk.i64_in _ (by omega)
        have e6 : IntKind.i64.wrap (hi - f) = hi - f := IntWalk.i64_in _ (by omega)
        have UP := Lib.hid (fun w => ceil_any (lo - f) s w (by omega) (by omega) k0 (by omega))
        have DN := Lib.hid (fun w => floor_any (hi - f) s w (by omega) (by omega) k0 (by omega))
        generalize gtF f s lo = F0 at *
        generalize gtT f s hi = T0 at *
        generalize cdiv (lo - f) s = C at *
        generalize (hi - f) / s = D at *
        go_enter Try.func45, Try.ntmps45
        go_wp2_with (first
          | ((with_reducible refine wpList_box_lit rfl 77 _ rfl 2 rfl #[.int .i64 f, .int .i64 s] rfl ?_); intro w1 N1; have s1 := N1.size; have cs1 := N1.at'; have zs1 := N1.free; have b1 : Hid (Below w.heap.size w w1) := Lib.hid N1.below; clear N1; have ys0_1 : w1.cell? ⟨w.heap.size, 0, none⟩ = some (.int .i64 f) := cs1 0 (by simp); have xs0_1 : w1.frozen? ⟨w.heap.size, 0, none⟩ = false := zs1 0 (by simp); have ys1_1 : w1.cell? ⟨w.heap.size, 1, none⟩ = some (.int .i64 s) := cs1 1 (by simp); have xs1_1 : w1.frozen? ⟨w.heap.size, 1, none⟩ = false := zs1 1 (by simp))
          | ((with_reducible refine wpList_box_lit rfl 79 _ rfl 3 rfl #[.int .i64 lo, .int .i64 hi] rfl ?_); intro w2 N2; have s2 := N2.size; have cs2 := cs1.later N2.below; have zs2 := zs1.later cs1 N2.below; have cr2 := N2.at'; have zr2 := N2.free; have b2 : Hid (Below w.heap.size w w2) := Lib.hid (below_then b1.out N2.below); clear N2; rw [s1] at s2 cr2 zr2; clear ys0_1 xs0_1 ys1_1 xs1_1; have ys0_2 : w2.cell? ⟨w.heap.size, 0, none⟩ = some (.int .i64 f) := cs2 0 (by simp); have xs0_2 : w2.frozen? ⟨w.heap.size, 0, none⟩ = false := zs2 0 (by simp); have ys1_2 : w2.cell? ⟨w.heap.size, 1, none⟩ = some (.int .i64 s) := cs2 1 (by simp); have xs1_2 : w2.frozen? ⟨w.heap.size, 1, none⟩ = false := zs2 1 (by simp); have yr0_2 : w2.cell? ⟨w.heap.size + 1, 0, none⟩ = some (.int .i64 lo) := cr2 0 (by simp); have xr0_2 : w2.frozen? ⟨w.heap.size + 1, 0, none⟩ = false := zr2 0 (by simp); have yr1_2 : w2.cell? ⟨w.heap.size + 1, 1, none⟩ = some (.int .i64 hi) := cr2 1 (by simp); have xr1_2 : w2.frozen? ⟨w.heap.size + 1, 1, none⟩ = false := zr2 1 (by simp))
          | ((with_reducible refine wpList_alloc_lit rfl 63 rfl 4 rfl #[.int .i64 0, .int .i64 0] zeroG ?_); intro w3 N3; have s3 := N3.size; have cs3 := cs2.later N3.below; have zs3 := zs2.later cs2 N3.below; have cr3 := cr2.later N3.below; have zr3 := zr2.later cr2 N3.below; have cg3 := N3.at'; have zg3 := N3.free; have b3 : Hid (Below w.heap.size w w3) := Lib.hid (below_then b2.out N3.below); clear N3; rw [s2] at s3 cg3 zg3; clear ys0_2 xs0_2 ys1_2 xs1_2; clear yr0_2 xr0_2 yr1_2 xr1_2; have ys0_3 : w3.cell? ⟨w.heap.size, 0, none⟩ = some (.int .i64 f) := cs3 0 (by simp); have xs0_3 : w3.frozen? ⟨w.heap.size, 0, none⟩ = false := zs3 0 (by simp); have ys1_3 : w3.cell? ⟨w.heap.size, 1, none⟩ = some (.int .i64 s) := cs3 1 (by simp); have xs1_3 : w3.frozen? ⟨w.heap.size, 1, none⟩ = false := zs3 1 (by simp); have yr0_3 : w3.cell? ⟨w.heap.size + 1, 0, none⟩ = some (.int .i64 lo) := cr3 0 (by simp); have xr0_3 : w3.frozen? ⟨w.heap.size + 1, 0, none⟩ = false := zr3 0 (by simp); have yr1_3 : w3.cell? ⟨w.heap.size + 1, 1, none⟩ = some (.int .i64 hi) := cr3 1 (by simp); have xr1_3 : w3.frozen? ⟨w.heap.size + 1, 1, none⟩ = false := zr3 1 (by simp); have yg0_3 : w3.cell? ⟨w.heap.size + 1 + 1, 0, none⟩ = some (.int .i64 0) := cg3 0 (by simp); have xg0_3 : w3.frozen? ⟨w.heap.size + 1 + 1, 0, none⟩ = false := zg3 0 (by simp); have yg1_3 : w3.cell? ⟨w.heap.size + 1 + 1, 1, none⟩ = some (.int .i64 0) := cg3 1 (by simp); have xg1_3 : w3.frozen? ⟨w.heap.size + 1 + 1, 1, none⟩ = false := zg3 1 (by simp))
          | (go_at_call 43; (with_reducible refine (HL.out _).mono ?_); rintro e w' ⟨rfl, rfl⟩)
          | (go_at_call 43; (with_reducible refine (HH.out _).mono ?_); rintro e w' ⟨rfl, rfl⟩))
        have y0 := ys0_3
        have y1 := ys1_3
        have y2 := yr0_3
        have y3 := yr1_3
        have y4 := yg0_3
        have y5 := yg1_3
        have y6 := xg0_3
        have y7 := xg1_3
        have yB := b3.out
        have YB := b3
        obtain ⟨W1, rfl⟩ : ∃ q, q = w3 := ⟨_, rfl⟩
        have zl1 := World.block_lt_of_cell? _ _ y0
        have zl2 := World.block_lt_of_cell? _ _ y2
        have zl3 := World.block_lt_of_cell? _ _ y4
        dsimp only at zl1 zl2 zl3
        clear s1 s2 s3
        have hT : (if D < 60 then D else 60) = T0 := by rw [GT.out]; split <;> omega
        by_cases c1 : C ≤ 0
        · have c2 : ¬ 0 < C := by omega
          obtain rfl : F0 = 0 := by rw [GF.out]; omega
          have hF : (if 0 < C then C else 0) = 0 := if_neg c2
          clear GF GT
          go_wp2
          go_region_held3 (fun w' => w'.cell? ⟨w.heap.size, 0, none⟩ = some (.int .i64 f) ∧ w'.cell? ⟨w.heap.size, 1, none⟩ = some (.int .i64 s) ∧ w'.cell? ⟨w.heap.size + 1, 0, none⟩ = some (.int .i64 lo) ∧ w'.cell? ⟨w.heap.size + 1, 1, none⟩ = some (.int .i64 hi) ∧ w'.cell? ⟨w.heap.size + 1 + 1, 0, none⟩ = some (.int .i64 0) ∧ w'.cell? ⟨w.heap.size + 1 + 1, 1, none⟩ = some (.int .i64 0) ∧ w'.frozen? ⟨w.heap.size + 1 + 1, 0, none⟩ = false ∧ w'.frozen? ⟨w.heap.size + 1 + 1, 1, none⟩ = false ∧ Below w.heap.size w w') (((go_split_ands; (repeat' apply And.intro) <;> first | (with_reducible assumption) | exact cell_alloc_later (by with_reducible assumption) _ | exact frozen_alloc_later (by with_reducible assumption) (by with_reducible assumption) _ | exact cell_drew' (by with_reducible assumption) | exact cell_drew' (cell_alloc_later (by with_reducible assumption) _) | exact cell_later (by with_reducible assumption) (by with_reducible assumption) | exact frozen_after (by with_reducible assumption) (by with_reducible assumption) (by with_reducible assumption) | exact below_then (by with_reducible assumption) (by with_reducible assumption) | exact below_alloc_top (by with_reducible assumption) _ | exact Below.drew (by with_reducible assumption) | exact Below.drew (below_alloc_top (by with_reducible assumption) _) | (simp [go_sem, World.cell?_alloc_past, *]; done))))
            (first
              | (go_at_call 75; (with_reducible refine (UP.out _).mono ?_); rintro e w' ⟨rfl, rfl⟩)
              | (go_at_call 76; (with_reducible refine (DN.out _).mono ?_); rintro e w' ⟨rfl, rfl⟩))
          all_goals (
            try rw [hF]
            obtain ⟨W2, hW2⟩ : ∃ q, q = (W1.alloc (.cells #[.int .i64 0, .int .i64 T0] 63)).drew := ⟨_, rfl⟩
            rw [← hW2]
            have hb2 : Below W1.heap.size W1 W2 := by rw [hW2]; exact (below_new _ _).drew
            have v4 := cell_later hb2 y4
            have v5 := cell_later hb2 y5
            have v6 := frozen_after hb2 y4 y6
            have v7 := frozen_after hb2 y5 y7
            have g0 : W2.cell? ⟨W1.heap.size, 0, none⟩ = some (.int .i64 0) := by rw [hW2]; simp [go_sem]
            have g1 : W2.cell? ⟨W1.heap.size, 1, none⟩ = some (.int .i64 T0) := by rw [hW2]; simp [go_sem]
            have B2 : Hid (Below w.heap.size w W2) := Lib.hid (below_then YB.out hb2)
            clear hW2 hb2 y0 y1 y2 y3 y4 y5 y6 y7
            by_cases hlt : T0 < 0
            · have dl : decide (T0 < 0) = true := by simpa using hlt
              obtain ⟨rfl, rfl, rfl⟩ := RN2.out (by omega)
              clear hlt
              go_wp2
              refine bodyPost_ret (v := .tuple #[.agg #[.int .i64 0, .int .i64 0], .int .i64 12]) ?_ rfl ⟨rfl, (B2.out.setCell (by dsimp only; omega) _).setCell (by dsimp only; omega) _⟩
              simp [results, Try.results45, go_sem, v4, v5]
            · have dl : decide (T0 < 0) = false := by simpa using hlt
              obtain ⟨rfl, rfl, rfl⟩ := RO2.out (by omega)
              clear hlt
              go_wp2
              refine bodyPost_ret (v := .tuple #[.agg #[.int .i64 0, .int .i64 B0], .int .i64 0]) ?_ rfl ⟨rfl, (B2.out.setCell (by dsimp only; omega) _).setCell (by dsimp only; omega) _⟩
              simp [results, Try.results45, go_sem, v4, v5])
        · have c2 : 0 < C := by omega
          obtain rfl : F0 = C := by rw [GF.out]; omega
          have hF : (if 0 < F0 then F0 else 0) = F0 := if_pos c2
          clear GF GT
          go_wp2
          go_region_held3 (fun w' => w'.cell? ⟨w.heap.size, 0, none⟩ = some (.int .i64 f) ∧ w'.cell? ⟨w.heap.size, 1, none⟩ = some (.int .i64 s) ∧ w'.cell? ⟨w.heap.size + 1, 0, none⟩ = some (.int .i64 lo) ∧ w'.cell? ⟨w.heap.size + 1, 1, none⟩ = some (.int .i64 hi) ∧ w'.cell? ⟨w.heap.size + 1 + 1, 0, none⟩ = some (.int .i64 0) ∧ w'.cell? ⟨w.heap.size + 1 + 1, 1, none⟩ = some (.int .i64 0) ∧ w'.frozen? ⟨w.heap.size + 1 + 1, 0, none⟩ = false ∧ w'.frozen? ⟨w.heap.size + 1 + 1, 1, none⟩ = false ∧ Below w.heap.size w w') (((go_split_ands; (repeat' apply And.intro) <;> first | (with_reducible assumption) | exact cell_alloc_later (by with_reducible assumption) _ | exact frozen_alloc_later (by with_reducible assumption) (by with_reducible assumption) _ | exact cell_drew' (by with_reducible assumption) | exact cell_drew' (cell_alloc_later (by with_reducible assumption) _) | exact cell_later (by with_reducible assumption) (by with_reducible assumption) | exact frozen_after (by with_reducible assumption) (by with_reducible assumption) (by with_reducible assumption) | exact below_then (by with_reducible assumption) (by with_reducible assumption) | exact below_alloc_top (by with_reducible assumption) _ | exact Below.drew (by with_reducible assumption) | exact Below.drew (below_alloc_top (by with_reducible assumption) _) | (simp [go_sem, World.cell?_alloc_past, *]; done))))
            (first
              | (go_at_call 75; (with_reducible refine (UP.out _).mono ?_); rintro e w' ⟨rfl, rfl⟩)
              | (go_at_call 76; (with_reducible refine (DN.out _).mono ?_); rintro e w' ⟨rfl, rfl⟩))
          all_goals (
            try rw [hF]
            obtain ⟨W2, hW2⟩ : ∃ q, q = (W1.alloc (.cells #[.int .i64 F0, .int .i64 T0] 63)).drew := ⟨_, rfl⟩
            rw [← hW2]
            have hb2 : Below W1.heap.size W1 W2 := by rw [hW2]; exact (below_new _ _).drew
            have v4 := cell_later hb2 y4
            have v5 := cell_later hb2 y5
            have v6 := frozen_after hb2 y4 y6
            have v7 := frozen_after hb2 y5 y7
            have g0 : W2.cell? ⟨W1.heap.size, 0, none⟩ = some (.int .i64 F0) := by rw [hW2]; simp [go_sem]
            have g1 : W2.cell? ⟨W1.heap.size, 1, none⟩ = some (.int .i64 T0) := by rw [hW2]; simp [go_sem]
            have B2 : Hid (Below w.heap.size w W2) := Lib.hid (below_then YB.out hb2)
            clear hW2 hb2 y0 y1 y2 y3 y4 y5 y6 y7
            by_cases hlt : T0 < F0
            · have dl : decide (T0 < F0) = true := by simpa using hlt
              obtain ⟨rfl, rfl, rfl⟩ := RN2.out (by omega)
              clear hlt
              go_wp2
              refine bodyPost_ret (v := .tuple #[.agg #[.int .i64 0, .int .i64 0], .int .i64 12]) ?_ rfl ⟨rfl, (B2.out.setCell (by dsimp only; omega) _).setCell (by dsimp only; omega) _⟩
              simp [results, Try.results45, go_sem, v4, v5]
            · have dl : decide (T0 < F0) = false := by simpa using hlt
              obtain ⟨rfl, rfl, rfl⟩ := RO2.out (by omega)
              clear hlt
              go_wp2
              refine bodyPost_ret (v := .tuple #[.agg #[.int .i64 A0, .int .i64 B0], .int .i64 0]) ?_ rfl ⟨rfl, (B2.out.setCell (by dsimp only; omega) _).setCell (by dsimp only; omega) _⟩
              simp [results, Try.results45, go_sem, v4, v5])
      · have hx : X0 = 9 := by rw [XE.out]; simp [fst, unl, hle]
        obtain ⟨rfl, rfl, hr⟩ := RZ.out (by rw [hx]; decide)
        subst hx
        subst hr
        have hgt : hi < lo := by omega
        clear RN RO RZ XE LZ HZ GF GT
        go_enter Try.func45, Try.ntmps45
        go_wp2_with (first
          | ((with_reducible refine wpList_box_lit rfl 77 _ rfl 2 rfl #[.int .i64 f, .int .i64 s] rfl ?_); intro w1 N1; have s1 := N1.size; have cs1 := N1.at'; have zs1 := N1.free; have b1 : Hid (Below w.heap.size w w1) := Lib.hid N1.below; clear N1; have ys0_1 : w1.cell? ⟨w.heap.size, 0, none⟩ = some (.int .i64 f) := cs1 0 (by simp); have xs0_1 : w1.frozen? ⟨w.heap.size, 0, none⟩ = false := zs1 0 (by simp); have ys1_1 : w1.cell? ⟨w.heap.size, 1, none⟩ = some (.int .i64 s) := cs1 1 (by simp); have xs1_1 : w1.frozen? ⟨w.heap.size, 1, none⟩ = false := zs1 1 (by simp))
          | ((with_reducible refine wpList_box_lit rfl 79 _ rfl 3 rfl #[.int .i64 lo, .int .i64 hi] rfl ?_); intro w2 N2; have s2 := N2.size; have cs2 := cs1.later N2.below; have zs2 := zs1.later cs1 N2.below; have cr2 := N2.at'; have zr2 := N2.free; have b2 : Hid (Below w.heap.size w w2) := Lib.hid (below_then b1.out N2.below); clear N2; rw [s1] at s2 cr2 zr2; clear ys0_1 xs0_1 ys1_1 xs1_1; have ys0_2 : w2.cell? ⟨w.heap.size, 0, none⟩ = some (.int .i64 f) := cs2 0 (by simp); have xs0_2 : w2.frozen? ⟨w.heap.size, 0, none⟩ = false := zs2 0 (by simp); have ys1_2 : w2.cell? ⟨w.heap.size, 1, none⟩ = some (.int .i64 s) := cs2 1 (by simp); have xs1_2 : w2.frozen? ⟨w.heap.size, 1, none⟩ = false := zs2 1 (by simp); have yr0_2 : w2.cell? ⟨w.heap.size + 1, 0, none⟩ = some (.int .i64 lo) := cr2 0 (by simp); have xr0_2 : w2.frozen? ⟨w.heap.size + 1, 0, none⟩ = false := zr2 0 (by simp); have yr1_2 : w2.cell? ⟨w.heap.size + 1, 1, none⟩ = some (.int .i64 hi) := cr2 1 (by simp); have xr1_2 : w2.frozen? ⟨w.heap.size + 1, 1, none⟩ = false := zr2 1 (by simp))
          | ((with_reducible refine wpList_alloc_lit rfl 63 rfl 4 rfl #[.int .i64 0, .int .i64 0] zeroG ?_); intro w3 N3; have s3 := N3.size; have cs3 := cs2.later N3.below; have zs3 := zs2.later cs2 N3.below; have cr3 := cr2.later N3.below; have zr3 := zr2.later cr2 N3.below; have cg3 := N3.at'; have zg3 := N3.free; have b3 : Hid (Below w.heap.size w w3) := Lib.hid (below_then b2.out N3.below); clear N3; rw [s2] at s3 cg3 zg3; clear ys0_2 xs0_2 ys1_2 xs1_2; clear yr0_2 xr0_2 yr1_2 xr1_2; have ys0_3 : w3.cell? ⟨w.heap.size, 0, none⟩ = some (.int .i64 f) := cs3 0 (by simp); have xs0_3 : w3.frozen? ⟨w.heap.size, 0, none⟩ = false := zs3 0 (by simp); have ys1_3 : w3.cell? ⟨w.heap.size, 1, none⟩ = some (.int .i64 s) := cs3 1 (by simp); have xs1_3 : w3.frozen? ⟨w.heap.size, 1, none⟩ = false := zs3 1 (by simp); have yr0_3 : w3.cell? ⟨w.heap.size + 1, 0, none⟩ = some (.int .i64 lo) := cr3 0 (by simp); have xr0_3 : w3.frozen? ⟨w.heap.size + 1, 0, none⟩ = false := zr3 0 (by simp); have yr1_3 : w3.cell? ⟨w.heap.size + 1, 1, none⟩ = some (.int .i64 hi) := cr3 1 (by simp); have xr1_3 : w3.frozen? ⟨w.heap.size + 1, 1, none⟩ = false := zr3 1 (by simp); have yg0_3 : w3.cell? ⟨w.heap.size + 1 + 1, 0, none⟩ = some (.int .i64 0) := cg3 0 (by simp); have xg0_3 : w3.frozen? ⟨w.heap.size + 1 + 1, 0, none⟩ = false := zg3 0 (by simp); have yg1_3 : w3.cell? ⟨w.heap.size + 1 + 1, 1, none⟩ = some (.int .i64 0) := cg3 1 (by simp); have xg1_3 : w3.frozen? ⟨w.heap.size + 1 + 1, 1, none⟩ = false := zg3 1 (by simp))
          | (go_at_call 43; (with_reducible refine (HL.out _).mono ?_); rintro e w' ⟨rfl, rfl⟩)
          | (go_at_call 43; (with_reducible refine (HH.out _).mono ?_); rintro e w' ⟨rfl, rfl⟩))
        refine bodyPost_ret (v := .tuple #[.agg #[.int .i64 0, .int .i64 0], .int .i64 9]) ?_ rfl ⟨rfl, (b3.out.setCell (by dsimp only; omega) _).setCell (by dsimp only; omega) _⟩
        simp [results, Try.results45, go_sem, yg0_3, yg1_3]
    · have hx : X0 = 2 := by rw [XE.out]; simp [fst]
      obtain ⟨rfl, rfl, hr⟩ := RZ.out (by rw [hx]; decide)
      subst hx
      subst hr
      clear RN RO RZ XE LZ HZ GF GT
      go_enter Try.func45, Try.ntmps45
      go_wp2_with (first
        | ((with_reducible refine wpList_box_lit rfl 77 _ rfl 2 rfl #[.int .i64 f, .int .i64 s] rfl ?_); intro w1 N1; have s1 := N1.size; have cs1 := N1.at'; have zs1 := N1.free; have b1 : Hid (Below w.heap.size w w1) := Lib.hid N1.below; clear N1; have ys0_1 : w1.cell? ⟨w.heap.size, 0, none⟩ = some (.int .i64 f) := cs1 0 (by simp); have xs0_1 : w1.frozen? ⟨w.heap.size, 0, none⟩ = false := zs1 0 (by simp); have ys1_1 : w1.cell? ⟨w.heap.size, 1, none⟩ = some (.int .i64 s) := cs1 1 (by simp); have xs1_1 : w1.frozen? ⟨w.heap.size, 1, none⟩ = false := zs1 1 (by simp))
        | ((with_reducible refine wpList_box_lit rfl 79 _ rfl 3 rfl #[.int .i64 lo, .int .i64 hi] rfl ?_); intro w2 N2; have s2 := N2.size; have cs2 := cs1.later N2.below; have zs2 := zs1.later cs1 N2.below; have cr2 := N2.at'; have zr2 := N2.free; have b2 : Hid (Below w.heap.size w w2) := Lib.hid (below_then b1.out N2.below); clear N2; rw [s1] at s2 cr2 zr2; clear ys0_1 xs0_1 ys1_1 xs1_1; have ys0_2 : w2.cell? ⟨w.heap.size, 0, none⟩ = some (.int .i64 f) := cs2 0 (by simp); have xs0_2 : w2.frozen? ⟨w.heap.size, 0, none⟩ = false := zs2 0 (by simp); have ys1_2 : w2.cell? ⟨w.heap.size, 1, none⟩ = some (.int .i64 s) := cs2 1 (by simp); have xs1_2 : w2.frozen? ⟨w.heap.size, 1, none⟩ = false := zs2 1 (by simp); have yr0_2 : w2.cell? ⟨w.heap.size + 1, 0, none⟩ = some (.int .i64 lo) := cr2 0 (by simp); have xr0_2 : w2.frozen? ⟨w.heap.size + 1, 0, none⟩ = false := zr2 0 (by simp); have yr1_2 : w2.cell? ⟨w.heap.size + 1, 1, none⟩ = some (.int .i64 hi) := cr2 1 (by simp); have xr1_2 : w2.frozen? ⟨w.heap.size + 1, 1, none⟩ = false := zr2 1 (by simp))
        | ((with_reducible refine wpList_alloc_lit rfl 63 rfl 4 rfl #[.int .i64 0, .int .i64 0] zeroG ?_); intro w3 N3; have s3 := N3.size; have cs3 := cs2.later N3.below; have zs3 := zs2.later cs2 N3.below; have cr3 := cr2.later N3.below; have zr3 := zr2.later cr2 N3.below; have cg3 := N3.at'; have zg3 := N3.free; have b3 : Hid (Below w.heap.size w w3) := Lib.hid (below_then b2.out N3.below); clear N3; rw [s2] at s3 cg3 zg3; clear ys0_2 xs0_2 ys1_2 xs1_2; clear yr0_2 xr0_2 yr1_2 xr1_2; have ys0_3 : w3.cell? ⟨w.heap.size, 0, none⟩ = some (.int .i64 f) := cs3 0 (by simp); have xs0_3 : w3.frozen? ⟨w.heap.size, 0, none⟩ = false := zs3 0 (by simp); have ys1_3 : w3.cell? ⟨w.heap.size, 1, none⟩ = some (.int .i64 s) := cs3 1 (by simp); have xs1_3 : w3.frozen? ⟨w.heap.size, 1, none⟩ = false := zs3 1 (by simp); have yr0_3 : w3.cell? ⟨w.heap.size + 1, 0, none⟩ = some (.int .i64 lo) := cr3 0 (by simp); have xr0_3 : w3.frozen? ⟨w.heap.size + 1, 0, none⟩ = false := zr3 0 (by simp); have yr1_3 : w3.cell? ⟨w.heap.size + 1, 1, none⟩ = some (.int .i64 hi) := cr3 1 (by simp); have xr1_3 : w3.frozen? ⟨w.heap.size + 1, 1, none⟩ = false := zr3 1 (by simp); have yg0_3 : w3.cell? ⟨w.heap.size + 1 + 1, 0, none⟩ = some (.int .i64 0) := cg3 0 (by simp); have xg0_3 : w3.frozen? ⟨w.heap.size + 1 + 1, 0, none⟩ = false := zg3 0 (by simp); have yg1_3 : w3.cell? ⟨w.heap.size + 1 + 1, 1, none⟩ = some (.int .i64 0) := cg3 1 (by simp); have xg1_3 : w3.frozen? ⟨w.heap.size + 1 + 1, 1, none⟩ = false := zg3 1 (by simp))
        | (go_at_call 43; (with_reducible refine (HL.out _).mono ?_); rintro e w' ⟨rfl, rfl⟩)
        | (go_at_call 43; (with_reducible refine (HH.out _).mono ?_); rintro e w' ⟨rfl, rfl⟩))
      refine bodyPost_ret (v := .tuple #[.agg #[.int .i64 0, .int .i64 0], .int .i64 2]) ?_ rfl ⟨rfl, (b3.out.setCell (by dsimp only; omega) _).setCell (by dsimp only; omega) _⟩
      simp [results, Try.results45, go_sem, yg0_3, yg1_3]
  · have hx : X0 = 2 := by rw [XE.out]; simp [fst]
    obtain ⟨rfl, rfl, hr⟩ := RZ.out (by rw [hx]; decide)
    subst hx
    subst hr
    clear RN RO RZ XE LZ HZ GF GT
    go_enter Try.func45, Try.ntmps45
    go_wp2_with (first
      | ((with_reducible refine wpList_box_lit rfl 77 _ rfl 2 rfl #[.int .i64 f, .int .i64 s] rfl ?_); intro w1 N1; have s1 := N1.size; have cs1 := N1.at'; have zs1 := N1.free; have b1 : Hid (Below w.heap.size w w1) := Lib.hid N1.below; clear N1; have ys0_1 : w1.cell? ⟨w.heap.size, 0, none⟩ = some (.int .i64 f) := cs1 0 (by simp); have xs0_1 : w1.frozen? ⟨w.heap.size, 0, none⟩ = false := zs1 0 (by simp); have ys1_1 : w1.cell? ⟨w.heap.size, 1, none⟩ = some (.int .i64 s) := cs1 1 (by simp); have xs1_1 : w1.frozen? ⟨w.heap.size, 1, none⟩ = false := zs1 1 (by simp))
      | ((with_reducible refine wpList_box_lit rfl 79 _ rfl 3 rfl #[.int .i64 lo, .int .i64 hi] rfl ?_); intro w2 N2; have s2 := N2.size; have cs2 := cs1.later N2.below; have zs2 := zs1.later cs1 N2.below; have cr2 := N2.at'; have zr2 := N2.free; have b2 : Hid (Below w.heap.size w w2) := Lib.hid (below_then b1.out N2.below); clear N2; rw [s1] at s2 cr2 zr2; clear ys0_1 xs0_1 ys1_1 xs1_1; have ys0_2 : w2.cell? ⟨w.heap.size, 0, none⟩ = some (.int .i64 f) := cs2 0 (by simp); have xs0_2 : w2.frozen? ⟨w.heap.size, 0, none⟩ = false := zs2 0 (by simp); have ys1_2 : w2.cell? ⟨w.heap.size, 1, none⟩ = some (.int .i64 s) := cs2 1 (by simp); have xs1_2 : w2.frozen? ⟨w.heap.size, 1, none⟩ = false := zs2 1 (by simp); have yr0_2 : w2.cell? ⟨w.heap.size + 1, 0, none⟩ = some (.int .i64 lo) := cr2 0 (by simp); have xr0_2 : w2.frozen? ⟨w.heap.size + 1, 0, none⟩ = false := zr2 0 (by simp); have yr1_2 : w2.cell? ⟨w.heap.size + 1, 1, none⟩ = some (.int .i64 hi) := cr2 1 (by simp); have xr1_2 : w2.frozen? ⟨w.heap.size + 1, 1, none⟩ = false := zr2 1 (by simp))
      | ((with_reducible refine wpList_alloc_lit rfl 63 rfl 4 rfl #[.int .i64 0, .int .i64 0] zeroG ?_); intro w3 N3; have s3 := N3.size; have cs3 := cs2.later N3.below; have zs3 := zs2.later cs2 N3.below; have cr3 := cr2.later N3.below; have zr3 := zr2.later cr2 N3.below; have cg3 := N3.at'; have zg3 := N3.free; have b3 : Hid (Below w.heap.size w w3) := Lib.hid (below_then b2.out N3.below); clear N3; rw [s2] at s3 cg3 zg3; clear ys0_2 xs0_2 ys1_2 xs1_2; clear yr0_2 xr0_2 yr1_2 xr1_2; have ys0_3 : w3.cell? ⟨w.heap.size, 0, none⟩ = some (.int .i64 f) := cs3 0 (by simp); have xs0_3 : w3.frozen? ⟨w.heap.size, 0, none⟩ = false := zs3 0 (by simp); have ys1_3 : w3.cell? ⟨w.heap.size, 1, none⟩ = some (.int .i64 s) := cs3 1 (by simp); have xs1_3 : w3.frozen? ⟨w.heap.size, 1, none⟩ = false := zs3 1 (by simp); have yr0_3 : w3.cell? ⟨w.heap.size + 1, 0, none⟩ = some (.int .i64 lo) := cr3 0 (by simp); have xr0_3 : w3.frozen? ⟨w.heap.size + 1, 0, none⟩ = false := zr3 0 (by simp); have yr1_3 : w3.cell? ⟨w.heap.size + 1, 1, none⟩ = some (.int .i64 hi) := cr3 1 (by simp); have xr1_3 : w3.frozen? ⟨w.heap.size + 1, 1, none⟩ = false := zr3 1 (by simp); have yg0_3 : w3.cell? ⟨w.heap.size + 1 + 1, 0, none⟩ = some (.int .i64 0) := cg3 0 (by simp); have xg0_3 : w3.frozen? ⟨w.heap.size + 1 + 1, 0, none⟩ = false := zg3 0 (by simp); have yg1_3 : w3.cell? ⟨w.heap.size + 1 + 1, 1, none⟩ = some (.int .i64 0) := cg3 1 (by simp); have xg1_3 : w3.frozen? ⟨w.heap.size + 1 + 1, 1, none⟩ = false := zg3 1 (by simp))
      | (go_at_call 43; (with_reducible refine (HL.out _).mono ?_); rintro e w' ⟨rfl, rfl⟩)
      | (go_at_call 43; (with_reducible refine (HH.out _).mono ?_); rintro e w' ⟨rfl, rfl⟩))
    refine bodyPost_ret (v := .tuple #[.agg #[.int .i64 0, .int .i64 0], .int .i64 2]) ?_ rfl ⟨rfl, (b3.out.setCell (by dsimp only; omega) _).setCell (by dsimp only; omega) _⟩
    simp [results, Try.results45, go_sem, yg0_3, yg1_3]
end Go.Proofs.Ytoieemgdkpnbfaa
