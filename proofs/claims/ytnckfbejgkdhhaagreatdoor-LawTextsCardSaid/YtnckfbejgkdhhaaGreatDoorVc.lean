/- the reference's errors of arrays and laws -/
import Derived.Test.YtnckfbejgkdhhaaGreatDoorV5
import Derived.Test.YtnckfbejgkdhhaaGreatDoorC1
namespace Go.Proofs.YtnckfbejgkdhhaaGreatDoor
open Go.RowKit Go.Shelf RayM
set_option linter.unusedSimpArgs false
set_option linter.unusedVariables false
set_option maxRecDepth 100000 in
set_option maxHeartbeats 1000000 in
theorem rClock_any (n : Int) (w : World) :
    Calls Tryz.prog 45 #[.int .i64 n] w fun e w' => e = .returned (.int .i64 (unl (inB n 1 1000000) 2)) ∧ w = w' := by
  cases h : inB n 1 1000000
  · have H := Lib.hid h; clear h
    go_enter Tryz.func45, Tryz.ntmps45
    go_wp2_with (go_at_call 46; (with_reducible refine (within_any _ _ _ _).mono ?_); (first | rw [H.out]); rintro e w' ⟨rfl, rfl⟩)
    go_ret
    exact ⟨rfl, rfl⟩
  · have H := Lib.hid h; clear h
    go_enter Tryz.func45, Tryz.ntmps45
    go_wp2_with (go_at_call 46; (with_reducible refine (within_any _ _ _ _).mono ?_); (first | rw [H.out]); rintro e w' ⟨rfl, rfl⟩)
    go_ret
    exact ⟨rfl, rfl⟩
theorem elE_cases (p : Sp) : elE p = if placeE p.x p.z = 0 then unl (decide (p.z < 0)) 15 else placeE p.x p.z := by
  unfold elE
  by_cases h : placeE p.x p.z = 0
  · rw [if_pos h, h]
    by_cases q : unl (decide (p.z < 0)) 15 = 0 <;> simp [fst, q]
  · rw [if_neg h]; simp [fst, h]
theorem placeE_two (x z : Int) : placeE x z = 0 ∨ placeE x z = 2 := by
  unfold placeE
  cases inB x (-100000) 100000 <;> cases inB z (-100000) 100000 <;> simp [fst, unl]
theorem La.E_loop (a : La) (h : ctE a.n 16 = 0) : a.E = if ffE a.g 0 a.n = 0 then (if moE a.m = 0 then unl (inB a.ck 1 1000000) 2 else moE a.m) else ffE a.g 0 a.n := by
  unfold La.E La.E2
  rw [if_pos h]
  by_cases q : ffE a.g 0 a.n = 0
  · rw [if_pos q, q]
    by_cases r : moE a.m = 0
    · rw [if_pos r, r]
      by_cases s : unl (inB a.ck 1 1000000) 2 = 0 <;> simp [fst, s]
    · rw [if_neg r]; simp [fst, r]
  · rw [if_neg q]; simp [fst, q]
theorem ctE_none (n : Nat) (h : n = 0) : ctE n 16 = 10 := by subst h; rfl
theorem ctE_big (n : Nat) (h : 16 < n) : ctE n 16 = 8 := by
  unfold ctE
  rw [show decide (0 < (n : Int)) = true by simp; omega, show decide ((n : Int) ≤ 16) = false by simp; omega]
  rfl
theorem ctE_ok (n : Nat) (h0 : 0 < n) (h1 : n ≤ 16) : ctE n 16 = 0 := (ctE_zero _ _).2 ⟨by omega, by omega⟩
theorem Dl.E_cases (d : Dl) : d.E = if unl (inB d.ck 1 1000000) 2 = 0 then (if ctE d.n 16 = 0 then ffE d.g 0 d.n else ctE d.n 16) else unl (inB d.ck 1 1000000) 2 := by
  unfold Dl.E Dl.E1
  by_cases q : unl (inB d.ck 1 1000000) 2 = 0
  · rw [if_pos q, q]
    by_cases r : ctE d.n 16 = 0 <;> simp [fst, r]
  · rw [if_neg q]; simp [fst, q]
theorem Dl.I_cases (d : Dl) : d.I = if unl (inB d.ck 1 1000000) 2 = 0 then (if ctE d.n 16 = 0 then ffI d.g 0 d.n else 0) else 0 := by
  unfold Dl.I Dl.E1
  by_cases q : unl (inB d.ck 1 1000000) 2 = 0
  · rw [if_pos q, q]
    by_cases r : ctE d.n 16 = 0 <;> simp [fst, r]
  · rw [if_neg q]; simp [fst, q]
set_option maxRecDepth 100000 in
set_option maxHeartbeats 1000000 in
theorem rCheckLaw_any (d : Dl) (A : Option Addr) (c : Nat) (w : World) (h : InAt A d.n d.t w) (hm : d.n ≤ 9223372036854775807) :
    Calls Tryz.prog 27 #[.agg #[.int .i64 d.ck, .slice A d.n c]] w fun e w' => e = .returned (.tuple #[.int .i64 (d.I : Nat), .int .i64 d.E]) ∧ Below w.heap.size w w' := by
  have HX := Lib.hid h; clear h
  have b0 : (0 : Int) ≤ (d.n : Int) := Int.natCast_nonneg _
  rw [Dl.E_cases d, Dl.I_cases d]
  have HCK := Lib.hid (fun w => rClock_any d.ck w)
  have G2 : Hid (∀ i, d.g i = unl (inB (d.t i) (-1) 1000000) 2) := Lib.hid (fun i => rfl)
  have FS := Lib.hid (ffE_step d.g); have IS := Lib.hid (ffI_step d.g)
  generalize unl (inB d.ck 1 1000000) 2 = uc at *
  by_cases hc : uc = 0
  · subst hc
    rw [if_pos rfl, if_pos rfl]
    by_cases h0 : d.n = 0
    · rw [ctE_none _ h0]
      have n1 : ((d.n : Int) == 0) = true := by simp; omega
      rw [if_neg (by decide), if_neg (by decide)]
      go_enter Tryz.func27, Tryz.ntmps27
      go_wp2_with (go_at_call 45; (with_reducible refine (HCK.out _).mono ?_); rintro e w' ⟨rfl, rfl⟩)
      go_ret2
      exact ⟨rfl, (by repeat (first | exact Below.refl _ _ | refine Below.drew ?_ | refine below_drewN ?_ _ | refine Below.setCell ?_ (by first | omega | (simp; done) | (simp; omega)) _ | refine Below.alloc ?_ (by first | omega | (simp; done) | (simp; omega)) _))⟩
    · have n1 : ((d.n : Int) == 0) = false := by simp; omega
      by_cases h1 : 16 < d.n
      · rw [ctE_big _ h1]
        have n2 : decide ((16 : Int) < (d.n : Int)) = true := by simp; omega
        rw [if_neg (by decide), if_neg (by decide)]
        go_enter Tryz.func27, Tryz.ntmps27
        go_wp2_with (go_at_call 45; (with_reducible refine (HCK.out _).mono ?_); rintro e w' ⟨rfl, rfl⟩)
        go_ret2
        exact ⟨rfl, (by repeat (first | exact Below.refl _ _ | refine Below.drew ?_ | refine below_drewN ?_ _ | refine Below.setCell ?_ (by first | omega | (simp; done) | (simp; omega)) _ | refine Below.alloc ?_ (by first | omega | (simp; done) | (simp; omega)) _))⟩
      · have n2 : decide ((16 : Int) < (d.n : Int)) = false := by simp; omega
        have hc := ctE_ok d.n (by omega) (by omega)
        rw [hc, if_pos rfl, if_pos rfl]
        generalize hEq : ffE d.g 0 d.n = E0 at *
        generalize hIq : ffI d.g 0 d.n = I0 at *
        have EQ := Lib.hid hEq; have IQ := Lib.hid hIq; clear hEq hIq
        generalize d.g = g at *
        clear hc
        obtain ⟨ad, hA⟩ := HX.out.some (by omega)
        subst hA
        go_enter Tryz.func27, Tryz.ntmps27
        go_wp2_with (go_at_call 45; (with_reducible refine (HCK.out _).mono ?_); rintro e w' ⟨rfl, rfl⟩)
        obtain ⟨w1, hw_w1⟩ : ∃ q, q = (w.alloc (.cells #[.int .i64 d.ck, .slice (some ad) d.n c] 24)) := ⟨_, rfl⟩
        rw [← hw_w1]
        have q10 : w1.cell? ⟨w.heap.size, 0, none⟩ = some (.int .i64 d.ck) := by rw [hw_w1]; simp [go_sem]
        have q11 : w1.cell? ⟨w.heap.size, 1, none⟩ = some (.slice (some ad) d.n c) := by rw [hw_w1]; simp [go_sem]
        have H1 : Hid (Below w.heap.size w w1) := Lib.hid (by rw [hw_w1]; exact (by repeat (first | exact Below.refl _ _ | refine Below.drew ?_ | refine below_drewN ?_ _ | refine Below.setCell ?_ (by first | omega | (simp; done) | (simp; omega)) _ | refine Below.alloc ?_ (by first | omega | (simp; done) | (simp; omega)) _)))
        have z1 : w1.heap.size = w.heap.size + 1 := by rw [hw_w1]; simp
        clear hw_w1
        go_loopw [5] (fun s5 wr => ∃ k : Nat, k ≤ d.n ∧ s5 = .int .i64 (k : Int) ∧ ffE g k (d.n - k) = E0 ∧ ffI g k (d.n - k) = I0 ∧ Below w1.heap.size w1 wr) (fun s5 _ => d.n - (intOf s5).toNat)
        case atStart => exact ⟨0, Nat.zero_le _, rfl, EQ.out, IQ.out, Below.refl _ _⟩
        case round =>
          obtain ⟨k, hk, rfl, hE, hI, hb⟩ := hrel
          have HE := Lib.hid hE; have HI := Lib.hid hI; clear hE hI
          have HB := Lib.hid hb
          have HW : Hid (Below w.heap.size w wr) := Lib.hid (below_then H1.out hb)
          have r0 : wr.cell? ⟨w.heap.size, 0, none⟩ = some (.int .i64 d.ck) := cell_later hb q10
          have r1 : wr.cell? ⟨w.heap.size, 1, none⟩ = some (.slice (some ad) d.n c) := cell_later hb q11
          have zr0 := World.block_lt_of_cell? _ _ r0
          dsimp only at zr0
          by_cases hlt : k < d.n
          · have c0 := (HX.out.later HW.out).at hlt
            have j0 : (0 : Int) ≤ (k : Int) := Int.natCast_nonneg _
            have j1 : (k : Int) < (d.n : Int) := by omega
            have j8 : (k : Int) < 1000 := by omega
            have GK := Lib.hid (G2.out k)
            clear hb
            generalize d.t k = x at *
            by_cases hu : inB x (-1) 1000000 = true
            · have gz : g k = 0 := by rw [GK.out, hu]; rfl
              have GZ := Lib.hid gz; have IH := Lib.hid hu
              clear gz hu
              go_wp2_with (go_at_call 46; (with_reducible refine (within_any _ _ _ _).mono ?_); (first | rw [IH.out]); rintro e w' ⟨rfl, rfl⟩)
              go_roundw
              case rel => exact ⟨k + 1, by omega, by go_num, by rw [← HE.out, FS.out k d.n hlt, if_pos GZ.out], by rw [← HI.out, IS.out k d.n hlt, if_pos GZ.out], HB.out⟩
              case measure => simp [intOf]; omega
            · have hu' : inB x (-1) 1000000 = false := by simpa using hu
              have gz : g k = 2 := by rw [GK.out, hu']; rfl
              have ne : ¬ g k = 0 := by rw [gz]; decide
              have EE : Hid (E0 = 2) := Lib.hid (by rw [← HE.out, FS.out k d.n hlt, if_neg ne]; exact gz)
              have II : Hid (I0 = k) := Lib.hid (by rw [← HI.out, IS.out k d.n hlt, if_neg ne])
              have IH := Lib.hid hu'
              clear gz ne hu hu'
              go_wp2_with (go_at_call 46; (with_reducible refine (within_any _ _ _ _).mono ?_); (first | rw [IH.out]); rintro e w' ⟨rfl, rfl⟩)
              go_ret2
              exact ⟨by rw [EE.out, II.out]; rfl, HW.out⟩
          · have hk' : k = d.n := by omega
            have hE0 : E0 = 0 := by rw [← HE.out, hk', Nat.sub_self]; rfl
            have hI0 : I0 = 0 := by rw [← HI.out, hk', Nat.sub_self]; rfl
            have kk : decide ((k : Int) < (d.n : Int)) = false := by simp; omega
            have HE0 := Lib.hid hE0; have HI0 := Lib.hid hI0
            clear hE0 hI0 hk' hb
            go_wp2
            go_ret2
            exact ⟨by rw [HE0.out, HI0.out]; rfl, HW.out⟩
  · rw [if_neg hc, if_neg hc]
    have n1 : (uc != 0) = true := by simpa using hc
    clear hc
    go_enter Tryz.func27, Tryz.ntmps27
    go_wp2_with (go_at_call 45; (with_reducible refine (HCK.out _).mono ?_); rintro e w' ⟨rfl, rfl⟩)
    go_ret2
    exact ⟨rfl, (by repeat (first | exact Below.refl _ _ | refine Below.drew ?_ | refine below_drewN ?_ _ | refine Below.setCell ?_ (by first | omega | (simp; done) | (simp; omega)) _ | refine Below.alloc ?_ (by first | omega | (simp; done) | (simp; omega)) _))⟩
set_option maxRecDepth 100000 in
set_option maxHeartbeats 1000000 in
theorem wLawErr_any (d : Dl) (A : Option Addr) (c : Nat) (w : World) (h : InAt A d.n d.t w) (hm : d.n ≤ 9223372036854775807) :
    Calls Tryz.prog 12 #[.agg #[.int .i64 d.ck, .slice A d.n c]] w fun e w' => e = .returned (.int .i64 d.E) ∧ Below w.heap.size w w' := by
  have HX := Lib.hid h; clear h
  have HL := Lib.hid (fun w h => rCheckLaw_any d A c w h hm)
  generalize d.E = u at *
  generalize (d.I : Int) = v at *
  go_enter Tryz.func12, Tryz.ntmps12
  go_wp2_with fail
  refine (HL.out _ (HX.out.later ((Below.refl _ _).alloc (Nat.le_refl _) _))).mono ?_
  rintro e w1 ⟨rfl, hb1⟩

  have H1 : Hid (Below w.heap.size w w1) := Lib.hid (below_after (by repeat (first | exact Below.refl _ _ | refine Below.drew ?_ | refine below_drewN ?_ _ | refine Below.setCell ?_ (by first | omega | (simp; done) | (simp; omega)) _ | refine Below.alloc ?_ (by first | omega | (simp; done) | (simp; omega)) _)) hb1 (by first | omega | (simp; done) | (simp; omega))); clear hb1
  go_wp2
  go_ret
  exact ⟨rfl, H1.out⟩
end Go.Proofs.YtnckfbejgkdhhaaGreatDoor
