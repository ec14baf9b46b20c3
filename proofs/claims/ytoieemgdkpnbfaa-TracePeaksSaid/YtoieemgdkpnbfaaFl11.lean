/- the gate of times -/
import Derived.Test.YtoieemgdkpnbfaaFl10
namespace Go.Proofs.Ytoieemgdkpnbfaa
open Go.RowKit RayM
set_option linter.unusedSimpArgs false
set_option linter.unusedVariables false
/-- the errors of a sampling, of a time -/
def saE (f s : Int) : Int := fst [unl (inB f 0 1000000000000) 2, unl (inB s 1 100000000) 2]
def tiE (t : Int) : Int := unl (inB t (-1000000000000) 1000000000000) 2
theorem saE_zero (f s : Int) : saE f s = 0 ↔ (0 ≤ f ∧ f ≤ 1000000000000) ∧ 1 ≤ s ∧ s ≤ 100000000 := by
  unfold saE
  rw [fst2, unl_inB _ _ _ _ (by decide), unl_inB _ _ _ _ (by decide)]
theorem tiE_zero (t : Int) : tiE t = 0 ↔ -1000000000000 ≤ t ∧ t ≤ 1000000000000 := unl_inB _ _ _ _ (by decide)
set_option maxRecDepth 100000 in
set_option maxHeartbeats 1000000 in
theorem checkSampling_any (f s : Int) (w : World) :
    Calls Try.prog 41 #[.agg #[.int .i64 f, .int .i64 s]] w fun e w' => e = .returned (.int .i64 (saE f s)) ∧ Below w.heap.size w w' := by
  unfold saE
  go_enter Try.func41, Try.ntmps41
  go_wp2_with (first
    | ((with_reducible refine wpList_box_lit rfl 77 _ rfl 1 rfl #[.int .i64 f, .int .i64 s] rfl ?_); intro w1 N1; have s1 := N1.size; have cg1 := N1.at'; have zg1 := N1.free; have b1 : Hid (Below w.heap.size w w1) := Lib.hid N1.below; clear N1; have yg0_1 : w1.cell? ⟨w.heap.size, 0, none⟩ = some (.int .i64 f) := cg1 0 (by simp); have xg0_1 : w1.frozen? ⟨w.heap.size, 0, none⟩ = false := zg1 0 (by simp); have yg1_1 : w1.cell? ⟨w.heap.size, 1, none⟩ = some (.int .i64 s) := cg1 1 (by simp); have xg1_1 : w1.frozen? ⟨w.heap.size, 1, none⟩ = false := zg1 1 (by simp)))
  go_region_held3 (fun w' => w'.cell? ⟨w.heap.size, 0, none⟩ = some (.int .i64 f) ∧ w'.cell? ⟨w.heap.size, 1, none⟩ = some (.int .i64 s)) (((go_split_ands; (repeat' apply And.intro) <;> first | (with_reducible assumption) | exact cell_alloc_later (by with_reducible assumption) _ | exact frozen_alloc_later (by with_reducible assumption) (by with_reducible assumption) _ | exact cell_drew' (by with_reducible assumption) | exact cell_drew' (cell_alloc_later (by with_reducible assumption) _) | exact cell_later (by with_reducible assumption) (by with_reducible assumption) | (simp [go_sem, World.cell?_alloc_past, *]; done))))
    (first
      | (go_at_call 54; (with_reducible refine (isWithin_any _ _ _ _).mono ?_); rintro e w' ⟨rfl, rfl⟩)
      | (go_at_call 50; refine (firstError_any _ [unl (inB f 0 1000000000000) 2, unl (inB s 1 100000000) 2] _ (by simp) (by first | exact cells_drew _ _ (by first | rfl | assumption | simp) _ _ | exact cells_new _ _ (by first | rfl | assumption | simp) _ _)).mono ?_; rintro e w' ⟨rfl, rfl⟩))
  go_wp2
  go_ret
  exact ⟨rfl, Below.drew (below_alloc_top b1.out _)⟩
set_option maxRecDepth 100000 in
set_option maxHeartbeats 1000000 in
theorem timeErr_any (t : Int) (w : World) :
    Calls Try.prog 72 #[.int .i64 t] w fun e w' => e = .returned (.int .i64 (tiE t)) ∧ w = w' := by
  unfold tiE
  go_enter Try.func72, Try.ntmps72
  go_wp2_with (go_at_call 54; (with_reducible refine (isWithin_any _ _ _ _).mono ?_); rintro e w' ⟨rfl, rfl⟩)
  go_ret
  exact ⟨rfl, rfl⟩
/-- a gate of times -/
def gtE (f s lo hi : Int) : Int := fst [saE f s, tiE lo, tiE hi, unl (decide (lo ≤ hi)) 9]
def gtF (f s lo : Int) : Int := max 0 (cdiv (lo - f) s)
def gtT (f s hi : Int) : Int := min 60 ((hi - f) / s)
def gtR (f s lo hi : Int) : Int := if gtE f s lo hi = 0 then (if gtT f s hi < gtF f s lo then 12 else 0) else gtE f s lo hi
def gtA (f s lo hi : Int) : Int := if gtR f s lo hi = 0 then gtF f s lo else 0
def gtB (f s lo hi : Int) : Int := if gtR f s lo hi = 0 then gtT f s hi else 0
theorem fst4 (a b c d : Int) : fst [a, b, c, d] = 0 ↔ a = 0 ∧ b = 0 ∧ c = 0 ∧ d = 0 := by rw [fst_zero]; simp
theorem zeroG : (Try.prog.info? 63).map (fun i => (i.zero, i.size)) = some (some (.agg #[.int .i64 0, .int .i64 0]), (#[Value.int .i64 0, .int .i64 0]).size) := by kernel_rfl
theorem gtR_E {f s lo hi : Int} (h : gtE f s lo hi ≠ 0) : gtR f s lo hi = gtE f s lo hi := by unfold gtR; rw [if_neg h]
set_option maxRecDepth 100000 in
set_option maxHeartbeats 8000000 in
theorem gateOf_any (f s lo hi : Int) (w : World) :
    Calls Try.prog 39 #[.agg #[.int .i64 f, .int .i64 s], .agg #[.int .i64 lo, .int .i64 hi]] w fun e w' => e = .returned (.tuple #[.agg #[.int .i64 (gtA f s lo hi), .int .i64 (gtB f s lo hi)], .int .i64 (gtR f s lo hi)]) ∧ Below w.heap.size w w' := by
  have HS := Lib.hid (fun w => checkSampling_any f s w)
  have HL := Lib.hid (fun w => timeErr_any lo w)
  have HH := Lib.hid (fun w => timeErr_any hi w)
  have EF : Hid (fst [saE f s, tiE lo, tiE hi, unl (decide (lo ≤ hi)) 9] = gtE f s lo hi) := (rfl : _ = _)
  have EZ : Hid (gtE f s lo hi = 0 → saE f s = 0 ∧ tiE lo = 0 ∧ tiE hi = 0) := fun h => by
    obtain ⟨h1, h2, h3, h4⟩ := (fst4 _ _ _ _).1 h
    exact ⟨h1, h2, h3⟩
  have RZ : Hid (gtE f s lo hi ≠ 0 → gtA f s lo hi = 0 ∧ gtB f s lo hi = 0 ∧ gtR f s lo hi = gtE f s lo hi) := fun h => by
    have h2 := gtR_E h
    have h3 : gtR f s lo hi ≠ 0 := by rw [h2]; exact h
    exact ⟨by unfold gtA; rw [if_neg h3], by unfold gtB; rw [if_neg h3], h2⟩
  have RN : Hid (gtE f s lo hi = 0 → gtT f s hi < gtF f s lo → gtA f s lo hi = 0 ∧ gtB f s lo hi = 0 ∧ gtR f s lo hi = 12) := fun h h1 => by
    have h2 : gtR f s lo hi = 12 := by unfold gtR; rw [if_pos h, if_pos h1]
    have h3 : gtR f s lo hi ≠ 0 := by rw [h2]; decide
    exact ⟨by unfold gtA; rw [if_neg h3], by unfold gtB; rw [if_neg h3], h2⟩
  have RO : Hid (gtE f s lo hi = 0 → ¬ gtT f s hi < gtF f s lo → gtA f s lo hi = gtF f s lo ∧ gtB f s lo hi = gtT f s hi ∧ gtR f s lo hi = 0) := fun h h1 => by
    have h2 : gtR f s lo hi = 0 := by unfold gtR; rw [if_pos h, if_neg h1]
    exact ⟨by unfold gtA; rw [if_pos h2], by unfold gtB; rw [if_pos h2], h2⟩
  have SZ := Lib.hid (saE_zero f s)
  have LZ := Lib.hid (tiE_zero lo)
  have HZ := Lib.hid (tiE_zero hi)
  generalize gtR f s lo hi = R0 at *
  generalize gtA f s lo hi = A0 at *
  generalize gtB f s lo hi = B0 at *
  generalize gtE f s lo hi = X0 at *
  generalize saE f s = u0 at *
  generalize tiE lo = u1 at *
  generalize tiE hi = u2 at *
  go_enter Try.func39, Try.ntmps39
  go_wp2_with (first
    | ((with_reducible refine wpList_box_lit rfl 77 _ rfl 2 rfl #[.int .i64 f, .int .i64 s] rfl ?_); intro w1 N1; have s1 := N1.size; have cs1 := N1.at'; have zs1 := N1.free; have b1 : Hid (Below w.heap.size w w1) := Lib.hid N1.below; clear N1; have ys0_1 : w1.cell? ⟨w.heap.size, 0, none⟩ = some (.int .i64 f) := cs1 0 (by simp); have xs0_1 : w1.frozen? ⟨w.heap.size, 0, none⟩ = false := zs1 0 (by simp); have ys1_1 : w1.cell? ⟨w.heap.size, 1, none⟩ = some (.int .i64 s) := cs1 1 (by simp); have xs1_1 : w1.frozen? ⟨w.heap.size, 1, none⟩ = false := zs1 1 (by simp))
    | ((with_reducible refine wpList_box_lit rfl 79 _ rfl 3 rfl #[.int .i64 lo, .int .i64 hi] rfl ?_); intro w2 N2; have s2 := N2.size; have cs2 := cs1.later N2.below; have zs2 := zs1.later cs1 N2.below; have cr2 := N2.at'; have zr2 := N2.free; have b2 : Hid (Below w.heap.size w w2) := Lib.hid (below_then b1.out N2.below); clear N2; rw [s1] at s2 cr2 zr2; clear ys0_1 xs0_1 ys1_1 xs1_1; have ys0_2 : w2.cell? ⟨w.heap.size, 0, none⟩ = some (.int .i64 f) := cs2 0 (by simp); have xs0_2 : w2.frozen? ⟨w.heap.size, 0, none⟩ = false := zs2 0 (by simp); have ys1_2 : w2.cell? ⟨w.heap.size, 1, none⟩ = some (.int .i64 s) := cs2 1 (by simp); have xs1_2 : w2.frozen? ⟨w.heap.size, 1, none⟩ = false := zs2 1 (by simp); have yr0_2 : w2.cell? ⟨w.heap.size + 1, 0, none⟩ = some (.int .i64 lo) := cr2 0 (by simp); have xr0_2 : w2.frozen? ⟨w.heap.size + 1, 0, none⟩ = false := zr2 0 (by simp); have yr1_2 : w2.cell? ⟨w.heap.size + 1, 1, none⟩ = some (.int .i64 hi) := cr2 1 (by simp); have xr1_2 : w2.frozen? ⟨w.heap.size + 1, 1, none⟩ = false := zr2 1 (by simp))
    | ((with_reducible refine wpList_alloc_lit rfl 63 rfl 4 rfl #[.int .i64 0, .int .i64 0] zeroG ?_); intro w3 N3; have s3 := N3.size; have cs3 := cs2.later N3.below; have zs3 := zs2.later cs2 N3.below; have cr3 := cr2.later N3.below; have zr3 := zr2.later cr2 N3.below; have cg3 := N3.at'; have zg3 := N3.free; have b3 : Hid (Below w.heap.size w w3) := Lib.hid (below_then b2.out N3.below); clear N3; rw [s2] at s3 cg3 zg3; clear ys0_2 xs0_2 ys1_2 xs1_2; clear yr0_2 xr0_2 yr1_2 xr1_2; have ys0_3 : w3.cell? ⟨w.heap.size, 0, none⟩ = some (.int .i64 f) := cs3 0 (by simp); have xs0_3 : w3.frozen? ⟨w.heap.size, 0, none⟩ = false := zs3 0 (by simp); have ys1_3 : w3.cell? ⟨w.heap.size, 1, none⟩ = some (.int .i64 s) := cs3 1 (by simp); have xs1_3 : w3.frozen? ⟨w.heap.size, 1, none⟩ = false := zs3 1 (by simp); have yr0_3 : w3.cell? ⟨w.heap.size + 1, 0, none⟩ = some (.int .i64 lo) := cr3 0 (by simp); have xr0_3 : w3.frozen? ⟨w.heap.size + 1, 0, none⟩ = false := zr3 0 (by simp); have yr1_3 : w3.cell? ⟨w.heap.size + 1, 1, none⟩ = some (.int .i64 hi) := cr3 1 (by simp); have xr1_3 : w3.frozen? ⟨w.heap.size + 1, 1, none⟩ = false := zr3 1 (by simp); have yg0_3 : w3.cell? ⟨w.heap.size + 1 + 1, 0, none⟩ = some (.int .i64 0) := cg3 0 (by simp); have xg0_3 : w3.frozen? ⟨w.heap.size + 1 + 1, 0, none⟩ = false := zg3 0 (by simp); have yg1_3 : w3.cell? ⟨w.heap.size + 1 + 1, 1, none⟩ = some (.int .i64 0) := cg3 1 (by simp); have xg1_3 : w3.frozen? ⟨w.heap.size + 1 + 1, 1, none⟩ = false := zg3 1 (by simp)))
  have bb := b3.out
  go_region_held3 (fun w' => w'.cell? ⟨w.heap.size, 0, none⟩ = some (.int .i64 f) ∧ w'.cell? ⟨w.heap.size, 1, none⟩ = some (.int .i64 s) ∧ w'.cell? ⟨w.heap.size + 1, 0, none⟩ = some (.int .i64 lo) ∧ w'.cell? ⟨w.heap.size + 1, 1, none⟩ = some (.int .i64 hi) ∧ w'.cell? ⟨w.heap.size + 1 + 1, 0, none⟩ = some (.int .i64 0) ∧ w'.cell? ⟨w.heap.size + 1 + 1, 1, none⟩ = some (.int .i64 0) ∧ w'.frozen? ⟨w.heap.size + 1 + 1, 0, none⟩ = false ∧ w'.frozen? ⟨w.heap.size + 1 + 1, 1, none⟩ = false ∧ Below w.heap.size w w') (((go_split_ands; (repeat' apply And.intro) <;> first | (with_reducible assumption) | exact cell_alloc_later (by with_reducible assumption) _ | exact frozen_alloc_later (by with_reducible assumption) (by with_reducible assumption) _ | exact cell_drew' (by with_reducible assumption) | exact cell_drew' (cell_alloc_later (by with_reducible assumption) _) | exact cell_later (by with_reducible assumption) (by with_reducible assumption) | exact frozen_after (by with_reducible assumption) (by with_reducible assumption) (by with_reducible assumption) | exact below_then (by with_reducible assumption) (by with_reducible assumption) | exact below_alloc_top (by with_reducible assumption) _ | exact Below.drew (by with_reducible assumption) | exact Below.drew (below_alloc_top (by with_reducible assumption) _) | (simp [go_sem, World.cell?_alloc_past, *]; done))))
    (first
      | (go_at_call 41; (with_reducible refine (HS.out _).mono ?_); rintro e w' ⟨rfl, hb⟩)
      | (go_at_call 72; (with_reducible refine (HL.out _).mono ?_); rintro e w' ⟨rfl, rfl⟩)
      | (go_at_call 72; (with_reducible refine (HH.out _).mono ?_); rintro e w' ⟨rfl, rfl⟩)
      | (go_at_call 67; (with_reducible refine (unless_any _ _ _).mono ?_); rintro e w' ⟨rfl, rfl⟩)
      | (go_at_call 50; refine (firstError_any _ [u0, u1, u2, unl (decide (lo ≤ hi)) 9] _ (by simp) (by first | exact cells_drew _ _ (by first | rfl | assumption | simp) _ _ | exact cells_new _ _ (by first | rfl | assumption | simp) _ _)).mono ?_; rw [EF.out]; rintro e w' ⟨rfl, rfl⟩))
  generalize w'.alloc (Obj.cells #[.int .i64 u0, .int .i64 u1, .int .i64 u2, .int .i64 (unl (decide (lo ≤ hi)) 9)] 28) = W1 at *
  go_split_ands
  have y0 : W1.cell? ⟨w.heap.size, 0, none⟩ = some (.int .i64 f) := by with_reducible assumption
  have y1 : W1.cell? ⟨w.heap.size, 1, none⟩ = some (.int .i64 s) := by with_reducible assumption
  have y2 : W1.cell? ⟨w.heap.size + 1, 0, none⟩ = some (.int .i64 lo) := by with_reducible assumption
  have y3 : W1.cell? ⟨w.heap.size + 1, 1, none⟩ = some (.int .i64 hi) := by with_reducible assumption
  have y4 : W1.cell? ⟨w.heap.size + 1 + 1, 0, none⟩ = some (.int .i64 0) := by with_reducible assumption
  have y5 : W1.cell? ⟨w.heap.size + 1 + 1, 1, none⟩ = some (.int .i64 0) := by with_reducible assumption
  have y6 : W1.frozen? ⟨w.heap.size + 1 + 1, 0, none⟩ = false := by with_reducible assumption
  have y7 : W1.frozen? ⟨w.heap.size + 1 + 1, 1, none⟩ = false := by with_reducible assumption
  have yB : Below w.heap.size w W1 := by with_reducible assumption
  have YB := Lib.hid yB
  clear HS HL HH EF
  clear cs1 zs1 b1 cs2 zs2 cr2 zr2 b2 cs3 zs3 cr3 zr3 cg3 zg3 b3 bb
  by_cases hz : X0 = 0
  · obtain ⟨e0, e1, e2⟩ := EZ.out hz
    obtain ⟨⟨f0, f1⟩, k0, k1⟩ := SZ.out.1 e0
    obtain ⟨l0, l1⟩ := LZ.out.1 e1
    obtain ⟨h0, h1⟩ := HZ.out.1 e2
    have e5 : IntKind.i64.wrap (lo - f) = lo - f := IntWalk.i64_in _ (by omega)
    have e6 : IntKind.i64.wrap (hi - f) = hi - f := IntWalk.i64_in _ (by omega)
    have UP := Lib.hid (fun w => up_any (lo - f) s w (by omega) (by omega) k0 (by omega))
    have DN := Lib.hid (fun w => down_any (hi - f) s w (by omega) (by omega) k0 (by omega))
    have RN2 := Lib.hid (RN.out hz)
    have RO2 := Lib.hid (RO.out hz)
    have zl1 := World.block_lt_of_cell? _ _ y0
    have zl2 := World.block_lt_of_cell? _ _ y2
    have zl3 := World.block_lt_of_cell? _ _ y4
    dsimp only at zl1 zl2 zl3
    subst hz
    clear RN RO RZ EZ SZ LZ HZ e0 e1 e2
    have GF : Hid (gtF f s lo = max 0 (cdiv (lo - f) s)) := (rfl : _ = _)
    have GT : Hid (gtT f s hi = min 60 ((hi - f) / s)) := (rfl : _ = _)
    generalize gtF f s lo = F0 at *
    generalize gtT f s hi = T0 at *
    generalize cdiv (lo - f) s = C at *
    generalize (hi - f) / s = D at *
    have hT : (if D < 60 then D else 60) = T0 := by rw [GT.out]; split <;> omega
    by_cases c1 : C ≤ 0
    · have c2 : ¬ 0 < C := by omega
      obtain rfl : F0 = 0 := by rw [GF.out]; omega
      have hF : (if 0 < C then C else 0) = 0 := if_neg c2
      clear GF GT
      go_wp2
      go_region_held3 (fun w' => w'.cell? ⟨w.heap.size, 0, none⟩ = some (.int .i64 f) ∧ w'.cell? ⟨w.heap.size, 1, none⟩ = some (.int .i64 s) ∧ w'.cell? ⟨w.heap.size + 1, 0, none⟩ = some (.int .i64 lo) ∧ w'.cell? ⟨w.heap.size + 1, 1, none⟩ = some (.int .i64 hi) ∧ w'.cell? ⟨w.heap.size + 1 + 1, 0, none⟩ = some (.int .i64 0) ∧ w'.cell? ⟨w.heap.size + 1 + 1, 1, none⟩ = some (.int .i64 0) ∧ w'.frozen? ⟨w.heap.size + 1 + 1, 0, none⟩ = false ∧ w'.frozen? ⟨w.heap.size + 1 + 1, 1, none⟩ = false ∧ Below w.heap.size w w') (((go_split_ands; (repeat' apply And.intro) <;> first | (with_reducible assumption) | exact cell_alloc_later (by with_reducible assumption) _ | exact frozen_alloc_later (by with_reducible assumption) (by with_reducible assumption) _ | exact cell_drew' (by with_reducible assumption) | exact cell_drew' (cell_alloc_later (by with_reducible assumption) _) | exact cell_later (by with_reducible assumption) (by with_reducible assumption) | exact frozen_after (by with_reducible assumption) (by with_reducible assumption) (by with_reducible assumption) | exact below_then (by with_reducible assumption) (by with_reducible assumption) | exact below_alloc_top (by with_reducible assumption) _ | exact Below.drew (by with_reducible assumption) | exact Below.drew (below_alloc_top (by with_reducible assumption) _) | (simp [go_sem, World.cell?_alloc_past, *]; done))))
        (first
          | (go_at_call 73; (with_reducible refine (UP.out _).mono ?_); rintro e w' ⟨rfl, rfl⟩)
          | (go_at_call 74; (with_reducible refine (DN.out _).mono ?_); rintro e w' ⟨rfl, rfl⟩))
      all_goals (
        try rw [hF]
        obtain ⟨W2, hW2⟩ : ∃ q, q = (W1.alloc (.cells #[.int .i64 0, .int .i64 T0] 63)).drew := ⟨_, rfl⟩
        rw [← hW2]
        have hb2 : Below W1.heap.size W1 W2 := by rw [hW2]; exact (below_new _ _).drew
        have v4 := cell_later hb2 y4
        have v5 := cell_later hb2 y5
        have v6 := frozen_after hb2 y4 y6
        have v7 := frozen_after hb2 y5 y7
        have g0 : W2.cell? ⟨W1.heap.size, 0, none⟩ = some (.int .i64 0) := by rw [hW2]; simp [go_sem]
        have g1 : W2.cell? ⟨W1.heap.size, 1, none⟩ = some (.int .i64 T0) := by rw [hW2]; simp [go_sem]
        have B2 : Hid (Below w.heap.size w W2) := Lib.hid (below_then YB.out hb2)
        clear hW2 hb2 y0 y1 y2 y3 y4 y5 y6 y7
        by_cases hlt : T0 < 0
        · have dl : decide (T0 < 0) = true := by simpa using hlt
          obtain ⟨rfl, rfl, rfl⟩ := RN2.out (by omega)
          clear hlt
          go_wp2
          refine bodyPost_ret (v := .tuple #[.agg #[.int .i64 0, .int .i64 0], .int .i64 12]) ?_ rfl ⟨rfl, (B2.out.setCell (by dsimp only; omega) _).setCell (by dsimp only; omega) _⟩
          simp [results, Try.results39, go_sem, v4, v5]
        · have dl : decide (T0 < 0) = false := by simpa using hlt
          obtain ⟨rfl, rfl, rfl⟩ := RO2.out (by omega)
          clear hlt
          go_wp2
          refine bodyPost_ret (v := .tuple #[.agg #[.int .i64 0, .int .i64 B0], .int .i64 0]) ?_ rfl ⟨rfl, (B2.out.setCell (by dsimp only; omega) _).setCell (by dsimp only; omega) _⟩
          simp [results, Try.results39, go_sem, v4, v5])
    · have c2 : 0 < C := by omega
      obtain rfl : F0 = C := by rw [GF.out]; omega
      have hF : (if 0 < F0 then F0 else 0) = F0 := if_pos c2
      clear GF GT
      go_wp2
      go_region_held3 (fun w' => w'.cell? ⟨w.heap.size, 0, none⟩ = some (.int .i64 f) ∧ w'.cell? ⟨w.heap.size, 1, none⟩ = some (.int .i64 s) ∧ w'.cell? ⟨w.heap.size + 1, 0, none⟩ = some (.int .i64 lo) ∧ w'.cell? ⟨w.heap.size + 1, 1, none⟩ = some (.int .i64 hi) ∧ w'.cell? ⟨w.heap.size + 1 + 1, 0, none⟩ = some (.int .i64 0) ∧ w'.cell? ⟨w.heap.size + 1 + 1, 1, none⟩ = some (.int .i64 0) ∧ w'.frozen? ⟨w.heap.size + 1 + 1, 0, none⟩ = false ∧ w'.frozen? ⟨w.heap.size + 1 + 1, 1, none⟩ = false ∧ Below w.heap.size w w') (((go_split_ands; (repeat' apply And.intro) <;> first | (with_reducible assumption) | exact cell_alloc_later (by with_reducible assumption) _ | exact frozen_alloc_later (by with_reducible assumption) (by with_reducible assumption) _ | exact cell_drew' (by with_reducible assumption) | exact cell_drew' (cell_alloc_later (by with_reducible assumption) _) | exact cell_later (by with_reducible assumption) (by with_reducible assumption) | exact frozen_after (by with_reducible assumption) (by with_reducible assumption) (by with_reducible assumption) | exact below_then (by with_reducible assumption) (by with_reducible assumption) | exact below_alloc_top (by with_reducible assumption) _ | exact Below.drew (by with_reducible assumption) | exact Below.drew (below_alloc_top (by with_reducible assumption) _) | (simp [go_sem, World.cell?_alloc_past, *]; done))))
        (first
          | (go_at_call 73; (with_reducible refine (UP.out _).mono ?_); rintro e w' ⟨rfl, rfl⟩)
          | (go_at_call 74; (with_reducible refine (DN.out _).mono ?_); rintro e w' ⟨rfl, rfl⟩))
      all_goals (
        try rw [hF]
        obtain ⟨W2, hW2⟩ : ∃ q, q = (W1.alloc (.cells #[.int .i64 F0, .int .i64 T0] 63)).drew := ⟨_, rfl⟩
        rw [← hW2]
        have hb2 : Below W1.heap.size W1 W2 := by rw [hW2]; exact (below_new _ _).drew
        have v4 := cell_later hb2 y4
        have v5 := cell_later hb2 y5
        have v6 := frozen_after hb2 y4 y6
        have v7 := frozen_after hb2 y5 y7
        have g0 : W2.cell? ⟨W1.heap.size, 0, none⟩ = some (.int .i64 F0) := by rw [hW2]; simp [go_sem]
        have g1 : W2.cell? ⟨W1.heap.size, 1, none⟩ = some (.int .i64 T0) := by rw [hW2]; simp [go_sem]
        have B2 : Hid (Below w.heap.size w W2) := Lib.hid (below_then YB.out hb2)
        clear hW2 hb2 y0 y1 y2 y3 y4 y5 y6 y7
        by_cases hlt : T0 < F0
        · have dl : decide (T0 < F0) = true := by simpa using hlt
          obtain ⟨rfl, rfl, rfl⟩ := RN2.out (by omega)
          clear hlt
          go_wp2
          refine bodyPost_ret (v := .tuple #[.agg #[.int .i64 0, .int .i64 0], .int .i64 12]) ?_ rfl ⟨rfl, (B2.out.setCell (by dsimp only; omega) _).setCell (by dsimp only; omega) _⟩
          simp [results, Try.results39, go_sem, v4, v5]
        · have dl : decide (T0 < F0) = false := by simpa using hlt
          obtain ⟨rfl, rfl, rfl⟩ := RO2.out (by omega)
          clear hlt
          go_wp2
          refine bodyPost_ret (v := .tuple #[.agg #[.int .i64 A0, .int .i64 B0], .int .i64 0]) ?_ rfl ⟨rfl, (B2.out.setCell (by dsimp only; omega) _).setCell (by dsimp only; omega) _⟩
          simp [results, Try.results39, go_sem, v4, v5])
  · obtain ⟨rfl, rfl, rfl⟩ := RZ.out hz
    have nz : (R0 != 0) = true := by simpa using hz
    clear hz
    go_wp2
    refine bodyPost_ret (v := .tuple #[.agg #[.int .i64 0, .int .i64 0], .int .i64 R0]) ?_ rfl ⟨rfl, (YB.out.setCell (by dsimp only; omega) _).setCell (by dsimp only; omega) _⟩
    simp [results, Try.results39, go_sem, y4, y5]
end Go.Proofs.Ytoieemgdkpnbfaa
