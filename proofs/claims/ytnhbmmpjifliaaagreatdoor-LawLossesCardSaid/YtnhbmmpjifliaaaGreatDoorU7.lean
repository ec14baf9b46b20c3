/- LawLosses: the walk -/
import Derived.Test.YtnhbmmpjifliaaaGreatDoorU6
import Derived.Test.YtnhbmmpjifliaaaGreatDoorU2
namespace Go.Proofs.YtnhbmmpjifliaaaGreatDoor
open Go.RowKit RayM
set_option linter.unusedSimpArgs false
set_option linter.unusedVariables false
theorem bne_t (x : Int) (h : x ≠ 0) : (x != 0) = true := by simpa using h
set_option maxRecDepth 100000 in
set_option maxHeartbeats 1000000 in
theorem losses_any (s p m0 m1 : Int) (w : World) (hL : Laid w) (AWK : Hid (∀ w, Laid w → Calls Tryz.prog 11 #[] w fun e w' => e = .returned (.bool true) ∧ Below w.heap.size w w')) :
    Calls Tryz.prog 3 #[.int .i64 s, .int .i64 p, .agg #[.int .i64 m0, .int .i64 m1]] w fun e w' => e = .returned (.bool true) ∧ Below w.heap.size w w' := by
  have EZ := Lib.hid (loE2_zero s p).1
  have ET := Lib.hid (loE2_two s p)
  have VI := Lib.hid (loV_in s p)
  have VN := Lib.hid (fun (h : loE2 s p = 0) (q : s = 0) => by subst q; exact loV_none p h : loE2 s p = 0 → s = 0 → loV s p = 0)
  have QA := Lib.hid (fun (h : loE2 s p = 0) (m : 0 ≤ m0) (q : loE2 (s + m0) p = 0) => loV_more s p m0 h q m)
  have QB := Lib.hid (fun (h : loE2 s p = 0) (m : 0 ≤ m1) (q : loE2 s (p + m1) = 0) => loV_less s p m1 h q m)
  have LP := Lib.hid (fun w => lossOf_any s p w)
  have LR := Lib.hid (fun w => refLoss_any s p w)
  have LA := Lib.hid (fun w => lossOf_any (s + m0) p w)
  have LB := Lib.hid (fun w => lossOf_any s (p + m1) w)
  have LH := Lib.hid hL
  clear hL
  generalize loV (s + m0) p = a at *
  generalize loE2 (s + m0) p = f at *
  generalize loV s (p + m1) = c at *
  generalize loE2 s (p + m1) = g at *
  generalize loV s p = V at *
  generalize loE2 s p = E at *
  go_enter Tryz.func3, Tryz.ntmps3
  go_wp2_with fail
  refine (AWK.out _ (LH.out.later ((Below.refl _ _).alloc (Nat.le_refl _) _))).mono ?_
  rintro e w2 ⟨rfl, hb2⟩
  have c20 : w2.cell? ⟨w.heap.size, 0, none⟩ = some (.int .i64 m0) := cell_later hb2 (by simp [go_sem])
  have c21 : w2.cell? ⟨w.heap.size, 1, none⟩ = some (.int .i64 m1) := cell_later hb2 (by simp [go_sem])
  have H2 : Hid (Below w.heap.size w w2) := Lib.hid (((Below.refl _ _).alloc (Nat.le_refl _) _ : Below w.heap.size w (w.alloc (.cells #[.int .i64 m0, .int .i64 m1] 22))).trans (hb2.mono (by simp)))
  clear hb2
  go_wp2_with fail
  refine (LP.out _).mono ?_
  rintro e w3 ⟨rfl, hb3⟩
  have c30 := cell_later hb3 c20; have c31 := cell_later hb3 c21
  have H3 := Lib.hid (below_then H2.out hb3)
  clear hb3 c20 c21 H2
  go_wp2_with fail
  refine (LR.out _).mono ?_
  rintro e w' ⟨rfl, rfl⟩
  by_cases hE : E = 0
  · obtain ⟨⟨s0, s1⟩, p0, p1⟩ := EZ.out hE
    obtain ⟨v0, v1⟩ := VI.out
    have VN' := Lib.hid (VN.out hE)
    have QA' := Lib.hid (QA.out hE)
    have QB' := Lib.hid (QB.out hE)
    subst hE
    clear EZ ET VI VN QA QB LP LR
    by_cases i0 : inB m0 0 1000000000 = true
    · by_cases i1 : inB m1 0 1000000000 = true
      · have b0 : 0 ≤ m0 ∧ m0 ≤ 1000000000 := by simpa [inB] using i0
        have b1 : 0 ≤ m1 ∧ m1 ≤ 1000000000 := by simpa [inB] using i1
        obtain ⟨x0, x1⟩ := b0; obtain ⟨x2, x3⟩ := b1
        have QA2 := Lib.hid (QA'.out x0); have QB2 := Lib.hid (QB'.out x2)
        have I0 := Lib.hid i0; have I1 := Lib.hid i1
        have IV : Hid (inB V 0 1000 = true) := Lib.hid (by simp [inB]; omega)
        clear QA' QB' i0 i1
        go_wp2_with (first | (go_at_call 14; (with_reducible refine (bwithin_any _ _ _ _).mono ?_); (first | rw [I0.out] | rw [I1.out]); rintro e w' ⟨rfl, rfl⟩))
        refine (LA.out _).mono ?_
        rintro e w4 ⟨rfl, hb4⟩
        have c40 := cell_later hb4 c30; have c41 := cell_later hb4 c31
        have H4 := Lib.hid (below_then H3.out hb4)
        clear hb4 c30 c31 H3
        go_wp2_with fail
        refine (LB.out _).mono ?_
        rintro e w5 ⟨rfl, hb5⟩
        have H5 := Lib.hid (below_then H4.out hb5)
        clear hb5 c40 c41 H4
        by_cases hf : f = 0
        · have y0 := QA2.out hf
          subst hf
          by_cases hg : g = 0
          · have y1 := QB2.out hg
            subst hg
            by_cases hs : s = 0
            · have y2 := VN'.out hs
              subst hs; subst y2
              clear QA2 QB2 VN'
              go_wp2_with (first | (go_at_call 14; (with_reducible refine (bwithin_any _ _ _ _).mono ?_); rw [IV.out]; rintro e w' ⟨rfl, rfl⟩))
              go_ret
              exact ⟨rfl, H5.out⟩
            · have y2 := bne_t s hs
              clear QA2 QB2 VN' hs
              go_wp2_with (first | (go_at_call 14; (with_reducible refine (bwithin_any _ _ _ _).mono ?_); rw [IV.out]; rintro e w' ⟨rfl, rfl⟩))
              go_ret
              exact ⟨rfl, H5.out⟩
          · have y1 := bne_t g hg
            by_cases hs : s = 0
            · have y2 := VN'.out hs
              subst hs; subst y2
              clear QA2 QB2 VN' hg
              go_wp2_with (first | (go_at_call 14; (with_reducible refine (bwithin_any _ _ _ _).mono ?_); rw [IV.out]; rintro e w' ⟨rfl, rfl⟩))
              go_ret
              exact ⟨rfl, H5.out⟩
            · have y2 := bne_t s hs
              clear QA2 QB2 VN' hs hg
              go_wp2_with (first | (go_at_call 14; (with_reducible refine (bwithin_any _ _ _ _).mono ?_); rw [IV.out]; rintro e w' ⟨rfl, rfl⟩))
              go_ret
              exact ⟨rfl, H5.out⟩
        · have y0 := bne_t f hf
          by_cases hg : g = 0
          · have y1 := QB2.out hg
            subst hg
            by_cases hs : s = 0
            · have y2 := VN'.out hs
              subst hs; subst y2
              clear QA2 QB2 VN' hf
              go_wp2_with (first | (go_at_call 14; (with_reducible refine (bwithin_any _ _ _ _).mono ?_); rw [IV.out]; rintro e w' ⟨rfl, rfl⟩))
              go_ret
              exact ⟨rfl, H5.out⟩
            · have y2 := bne_t s hs
              clear QA2 QB2 VN' hs hf
              go_wp2_with (first | (go_at_call 14; (with_reducible refine (bwithin_any _ _ _ _).mono ?_); rw [IV.out]; rintro e w' ⟨rfl, rfl⟩))
              go_ret
              exact ⟨rfl, H5.out⟩
          · have y1 := bne_t g hg
            by_cases hs : s = 0
            · have y2 := VN'.out hs
              subst hs; subst y2
              clear QA2 QB2 VN' hg hf
              go_wp2_with (first | (go_at_call 14; (with_reducible refine (bwithin_any _ _ _ _).mono ?_); rw [IV.out]; rintro e w' ⟨rfl, rfl⟩))
              go_ret
              exact ⟨rfl, H5.out⟩
            · have y2 := bne_t s hs
              clear QA2 QB2 VN' hs hg hf
              go_wp2_with (first | (go_at_call 14; (with_reducible refine (bwithin_any _ _ _ _).mono ?_); rw [IV.out]; rintro e w' ⟨rfl, rfl⟩))
              go_ret
              exact ⟨rfl, H5.out⟩
      · have I0 := Lib.hid i0; have I1 := Lib.hid (show inB m1 0 1000000000 = false by simpa using i1)
        clear VN' QA' QB' i0 i1
        go_wp2_with (first | (go_at_call 14; (with_reducible refine (bwithin_any _ _ _ _).mono ?_); (first | rw [I0.out] | rw [I1.out]); rintro e w' ⟨rfl, rfl⟩))
        go_ret
        exact ⟨rfl, H3.out⟩
    · have I0 := Lib.hid (show inB m0 0 1000000000 = false by simpa using i0)
      clear VN' QA' QB' i0
      go_wp2_with (first | (go_at_call 14; (with_reducible refine (bwithin_any _ _ _ _).mono ?_); rw [I0.out]; rintro e w' ⟨rfl, rfl⟩))
      go_ret
      exact ⟨rfl, H3.out⟩
  · have nE := bne_t E hE
    clear EZ ET VI VN QA QB LP LR LA LB hE
    go_wp2
    go_ret
    exact ⟨rfl, H3.out⟩
end Go.Proofs.YtnhbmmpjifliaaaGreatDoor
