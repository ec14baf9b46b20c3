/- the reference: errors of crossings, and the crossing of least time -/
import Derived.Test.YtkkaomgdlnejcaaGreatDoorC5
namespace Go.Proofs.YtkkaomgdlnejcaaGreatDoor
open Go.RowKit RayM
set_option linter.unusedSimpArgs false
set_option linter.unusedVariables false
/-- the cells of a crossing as it came in -/
def RcAt (c : Cr) (b : Nat) (w : World) : Prop := w.cell? ⟨b, 0, none⟩ = some (.int .i64 c.x1) ∧ w.cell? ⟨b, 1, none⟩ = some (.int .i64 c.h1) ∧ w.cell? ⟨b, 2, none⟩ = some (.int .i64 c.v1) ∧ w.cell? ⟨b, 3, none⟩ = some (.int .i64 c.x2) ∧ w.cell? ⟨b, 4, none⟩ = some (.int .i64 c.h2) ∧ w.cell? ⟨b, 5, none⟩ = some (.int .i64 c.v2)
theorem RcAt.later {c : Cr} {b : Nat} {w w1 : World} (h : RcAt c b w) (hb : Below w.heap.size w w1) : RcAt c b w1 :=
  ⟨cell_later hb h.1, cell_later hb h.2.1, cell_later hb h.2.2.1, cell_later hb h.2.2.2.1, cell_later hb h.2.2.2.2.1, cell_later hb h.2.2.2.2.2⟩
set_option maxRecDepth 100000 in
set_option maxHeartbeats 1000000 in
theorem refCrossing_any (c : Cr) (o : c.ok) (w : World) :
    Calls Tryz.prog 138 #[.agg #[.int .i64 c.x1, .int .i64 c.h1, .int .i64 c.v1, .int .i64 c.x2, .int .i64 c.h2, .int .i64 c.v2]] w fun e w' => e = .returned (.int .i64 c.k) ∧ Below w.heap.size w w' := by
  have hk := k_is c o
  have hkb := k_bounds c o
  obtain ⟨k1, k2, k3, k4, k5, k6⟩ := hkb
  have ehi := Lib.hid (show max c.x1 c.x2 = c.hi from rfl)
  have elo := Lib.hid (show min c.x1 c.x2 = c.lo from rfl)
  have ph : In c c.hi := ⟨o, by omega, Int.le_refl _⟩
  have HH := Lib.hid (fun w => refSlope_any c c.hi ph w)
  by_cases hs : c.slope c.hi ≤ 0
  · have ek : c.k = c.hi := by
      by_cases h : c.k = c.hi
      · exact h
      · have := hk.q c.hi (by omega) (Int.le_refl _); omega
    have EK := Lib.hid ek; clear ek hk k1 k2
    generalize c.slope c.hi = sv at *
    go_enter Tryz.func138, Tryz.ntmps138
    go_wp2
    go_quiet (fail)
    go_wp2_with fail
    refine (HH.out _).mono ?_
    rintro e w1 ⟨rfl, hb1⟩
    have H1 := Lib.hid (below_after (by repeat (first | exact Below.refl _ _ | refine Below.drew ?_ | refine below_drewN ?_ _ | refine Below.setCell ?_ (by first | omega | (simp; done) | (simp; omega)) _ | refine Below.alloc ?_ (by first | omega | (simp; done) | (simp; omega)) _)) hb1 (by first | omega | (simp; done) | (simp; omega)) : Below w.heap.size w w1); clear hb1
    go_wp2
    go_ret
    exact ⟨by rw [EK.out]; rfl, H1.out⟩
  · have HK := Lib.hid hk; clear hk k1 k2
    have s1 : 0 < c.slope c.hi := by omega
    have S1 := Lib.hid s1
    generalize hsv : c.slope c.hi = sv at HH hs s1
    clear hsv
    go_enter Tryz.func138, Tryz.ntmps138
    go_wp2
    go_quiet (fail)
    go_wp2_with fail
    refine (HH.out _).mono ?_
    rintro e w1 ⟨rfl, hb1⟩
    have C1 : Hid (RcAt c w.heap.size w1) := (⟨cell_later hb1 (by simp [go_sem]), cell_later hb1 (by simp [go_sem]), cell_later hb1 (by simp [go_sem]), cell_later hb1 (by simp [go_sem]), cell_later hb1 (by simp [go_sem]), cell_later hb1 (by simp [go_sem])⟩ : RcAt c w.heap.size w1)
    have H1 := Lib.hid (below_after (by repeat (first | exact Below.refl _ _ | refine Below.drew ?_ | refine below_drewN ?_ _ | refine Below.setCell ?_ (by first | omega | (simp; done) | (simp; omega)) _ | refine Below.alloc ?_ (by first | omega | (simp; done) | (simp; omega)) _)) hb1 (by first | omega | (simp; done) | (simp; omega)) : Below w.heap.size w w1); clear hb1
    go_wp2_with fail
    go_loopw [3, 4] (fun s3 s4 wr => ∃ a b : Int, s3 = .int .i64 a ∧ s4 = .int .i64 b ∧ c.lo ≤ a ∧ a < b ∧ b ≤ c.hi ∧ Below w.heap.size w wr ∧ Hid (RcAt c w.heap.size wr) ∧ Hid (c.slope a ≤ 0 ∧ 0 < c.slope b)) (fun s3 s4 _ => (intOf s4 - intOf s3).toNat)
    case atStart => exact ⟨_, _, rfl, rfl, Int.le_refl _, (by
      have a := slope_lo c o
      have b := S1.out
      rcases Int.lt_or_eq_of_le (show c.lo ≤ c.hi by unfold Cr.lo Cr.hi; omega) with h | h
      · exact h
      · rw [h] at a; omega), Int.le_refl _, H1.out, C1, ⟨slope_lo c o, S1.out⟩⟩
    case round =>
      obtain ⟨a, b, rfl, rfl, q1, q2, q3, hB, hC, hI⟩ := hrel
      clear H1 C1 hs s1
      by_cases hlt : 1 < b - a
      · have pm : In c ((a + b) / 2) := ⟨o, by omega, by omega⟩
        have HM := Lib.hid (fun w => refSlope_any c ((a + b) / 2) pm w)
        have FD := Lib.hid (fun w => floor_any (a + b) 2 w (by omega) (by omega) (by omega) (by omega))
        obtain ⟨y0, y1, y2, y3, y4, y5⟩ := hC.out
        by_cases hm : c.slope ((a + b) / 2) ≤ 0
        · have J : Hid (c.slope ((a + b) / 2) ≤ 0 ∧ 0 < c.slope b) := ⟨hm, hI.out.2⟩
          generalize c.slope ((a + b) / 2) = sm at HM hm
          go_wp2_with fail
          refine (FD.out _).mono ?_
          rintro e w' ⟨rfl, rfl⟩
          go_wp2_with fail
          refine (HM.out _).mono ?_
          rintro e w2 ⟨rfl, hb2⟩
          have C2 : Hid (RcAt c w.heap.size w2) := hC.out.later hb2
          have H2 := Lib.hid (below_then hB hb2); clear hb2
          go_wp2
          go_roundw
          case rel => exact ⟨_, _, rfl, rfl, by omega, by omega, q3, H2.out, C2, J⟩
          case measure => simp [intOf]; omega
        · have J : Hid (c.slope a ≤ 0 ∧ 0 < c.slope ((a + b) / 2)) := ⟨hI.out.1, by omega⟩
          generalize c.slope ((a + b) / 2) = sm at HM hm
          go_wp2_with fail
          refine (FD.out _).mono ?_
          rintro e w' ⟨rfl, rfl⟩
          go_wp2_with fail
          refine (HM.out _).mono ?_
          rintro e w2 ⟨rfl, hb2⟩
          have C2 : Hid (RcAt c w.heap.size w2) := hC.out.later hb2
          have H2 := Lib.hid (below_then hB hb2); clear hb2
          go_wp2
          go_roundw
          case rel => exact ⟨_, _, rfl, rfl, q1, by omega, by omega, H2.out, C2, J⟩
          case measure => simp [intOf]; omega
      · have ek : c.k = a := by
          have e : b = a + 1 := by omega
          subst e
          refine HK.out.unique ⟨q1, by omega, fun t t1 t2 => ?_, fun t t1 t2 => ?_⟩
          · by_cases hq : 0 < c.slope t
            · have := slope_mono c o t a t1 t2 (by omega) hq; have := hI.out.1; omega
            · omega
          · exact slope_mono c o (a + 1) t (by omega) (by omega) t2 hI.out.2
        have EK := Lib.hid ek; clear ek
        go_wp2
        go_ret
        exact ⟨by rw [EK.out]; rfl, hB⟩
end Go.Proofs.YtkkaomgdlnejcaaGreatDoor
