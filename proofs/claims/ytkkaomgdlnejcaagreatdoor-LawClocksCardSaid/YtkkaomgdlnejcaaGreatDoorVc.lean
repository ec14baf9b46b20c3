/- the reference's errors of arrays and laws -/
import Derived.Test.YtkkaomgdlnejcaaGreatDoorV5
import Derived.Test.YtkkaomgdlnejcaaGreatDoorC1
namespace Go.Proofs.YtkkaomgdlnejcaaGreatDoor
open Go.RowKit Go.Shelf RayM
set_option linter.unusedSimpArgs false
set_option linter.unusedVariables false
set_option maxRecDepth 100000 in
set_option maxHeartbeats 1000000 in
theorem rClock_any (n : Int) (w : World) :
    Calls Tryz.prog 31 #[.int .i64 n] w fun e w' => e = .returned (.int .i64 (unl (inB n 1 1000000) 2)) ∧ w = w' := by
  cases h : inB n 1 1000000
  · have H := Lib.hid h; clear h
    go_enter Tryz.func31, Tryz.ntmps31
    go_wp2_with (go_at_call 16; (with_reducible refine (within_any _ _ _ _).mono ?_); (first | rw [H.out]); rintro e w' ⟨rfl, rfl⟩)
    go_ret
    exact ⟨rfl, rfl⟩
  · have H := Lib.hid h; clear h
    go_enter Tryz.func31, Tryz.ntmps31
    go_wp2_with (go_at_call 16; (with_reducible refine (within_any _ _ _ _).mono ?_); (first | rw [H.out]); rintro e w' ⟨rfl, rfl⟩)
    go_ret
    exact ⟨rfl, rfl⟩
theorem elE_cases (p : Sp) : elE p = if placeE p.x p.z = 0 then unl (decide (p.z < 0)) 15 else placeE p.x p.z := by
  unfold elE
  by_cases h : placeE p.x p.z = 0
  · rw [if_pos h, h]
    by_cases q : unl (decide (p.z < 0)) 15 = 0 <;> simp [fst, q]
  · rw [if_neg h]; simp [fst, h]
theorem placeE_two (x z : Int) : placeE x z = 0 ∨ placeE x z = 2 := by
  unfold placeE
  cases inB x (-100000) 100000 <;> cases inB z (-100000) 100000 <;> simp [fst, unl]
theorem La.E_loop (a : La) (h : ctE a.n 16 = 0) : a.E = if ffE a.g 0 a.n = 0 then (if moE a.m = 0 then unl (inB a.ck 1 1000000) 2 else moE a.m) else ffE a.g 0 a.n := by
  unfold La.E La.E2
  rw [if_pos h]
  by_cases q : ffE a.g 0 a.n = 0
  · rw [if_pos q, q]
    by_cases r : moE a.m = 0
    · rw [if_pos r, r]
      by_cases s : unl (inB a.ck 1 1000000) 2 = 0 <;> simp [fst, s]
    · rw [if_neg r]; simp [fst, r]
  · rw [if_neg q]; simp [fst, q]
theorem ctE_none (n : Nat) (h : n = 0) : ctE n 16 = 10 := by subst h; rfl
theorem ctE_big (n : Nat) (h : 16 < n) : ctE n 16 = 8 := by
  unfold ctE
  rw [show decide (0 < (n : Int)) = true by simp; omega, show decide ((n : Int) ≤ 16) = false by simp; omega]
  rfl
theorem ctE_ok (n : Nat) (h0 : 0 < n) (h1 : n ≤ 16) : ctE n 16 = 0 := (ctE_zero _ _).2 ⟨by omega, by omega⟩
set_option maxRecDepth 100000 in
set_option maxHeartbeats 1000000 in
theorem rCheckArray_any (a : La) (A : Option Addr) (c : Nat) (w : World) (h : SpAt A a.n a.p w) (hm : a.n ≤ 9223372036854775807) :
    Calls Tryz.prog 46 #[.agg #[.slice A a.n c, .int .i64 a.m.wd, .int .i64 a.m.mt, .int .i64 a.m.sk, .int .i64 a.m.th, .int .i64 a.ck]] w fun e w' => e = .returned (.tuple #[.int .i64 (a.I : Nat), .int .i64 a.E]) ∧ Below w.heap.size w w' := by
  have HX := Lib.hid h; clear h
  have b0 : (0 : Int) ≤ (a.n : Int) := Int.natCast_nonneg _
  by_cases h0 : a.n = 0
  · have e1 : a.E = 10 := by unfold La.E; rw [ctE_none _ h0]; rfl
    have e2 : a.I = 0 := by unfold La.I; rw [ctE_none _ h0]; rfl
    rw [e1, e2]
    have n1 : ((a.n : Int) == 0) = true := by simp; omega
    clear e1 e2
    go_enter Tryz.func46, Tryz.ntmps46
    go_wp2
    go_ret2
    exact ⟨rfl, (by repeat (first | exact Below.refl _ _ | refine Below.drew ?_ | refine below_drewN ?_ _ | refine Below.setCell ?_ (by first | omega | (simp; done) | (simp; omega)) _ | refine Below.alloc ?_ (by first | omega | (simp; done) | (simp; omega)) _))⟩
  · have n1 : ((a.n : Int) == 0) = false := by simp; omega
    by_cases h1 : 16 < a.n
    · have e1 : a.E = 8 := by unfold La.E; rw [ctE_big _ h1]; rfl
      have e2 : a.I = 0 := by unfold La.I; rw [ctE_big _ h1]; rfl
      rw [e1, e2]
      have n2 : decide ((16 : Int) < (a.n : Int)) = true := by simp; omega
      clear e1 e2
      go_enter Tryz.func46, Tryz.ntmps46
      go_wp2
      go_ret2
      exact ⟨rfl, (by repeat (first | exact Below.refl _ _ | refine Below.drew ?_ | refine below_drewN ?_ _ | refine Below.setCell ?_ (by first | omega | (simp; done) | (simp; omega)) _ | refine Below.alloc ?_ (by first | omega | (simp; done) | (simp; omega)) _))⟩
    · have n2 : decide ((16 : Int) < (a.n : Int)) = false := by simp; omega
      have hc := ctE_ok a.n (by omega) (by omega)
      have e1 := La.E_loop a hc
      have e2 : a.I = ffI a.g 0 a.n := by unfold La.I; rw [if_pos hc]
      have HM := Lib.hid (fun w => refMode_any a.m w)
      have FS := Lib.hid (ffE_step a.g); have IS := Lib.hid (ffI_step a.g)
      have GE : Hid (∀ i, a.g i = if placeE (a.p i).x (a.p i).z = 0 then unl (decide ((a.p i).z < 0)) 15 else placeE (a.p i).x (a.p i).z) := Lib.hid (fun i => elE_cases (a.p i))
      have HSP := Lib.hid (fun x z w => spotErr_any x z w)
      have P2 := Lib.hid (fun x z => placeE_two x z)
      rw [e2, e1]
      generalize hEq : ffE a.g 0 a.n = E0 at *
      generalize hIq : ffI a.g 0 a.n = I0 at *
      have EQ := Lib.hid hEq; have IQ := Lib.hid hIq; clear hEq hIq
      generalize a.g = g at *
      generalize moE a.m = um at *
      obtain ⟨EF, hF⟩ : ∃ x, x = (if E0 = 0 then (if um = 0 then unl (inB a.ck 1 1000000) 2 else um) else E0) := ⟨_, rfl⟩
      rw [← hF]
      have F0 : Hid (E0 = 0 → um = 0 → EF = unl (inB a.ck 1 1000000) 2) := Lib.hid (fun q r => by rw [hF, if_pos q, if_pos r])
      have F1 : Hid (E0 = 0 → ¬ um = 0 → EF = um) := Lib.hid (fun q r => by rw [hF, if_pos q, if_neg r])
      have F2 : Hid (¬ E0 = 0 → EF = E0) := Lib.hid (fun q => by rw [hF, if_neg q])
      clear e1 e2 hc hF
      obtain ⟨ad, hA⟩ := HX.out.some (by omega)
      subst hA
      go_enter Tryz.func46, Tryz.ntmps46
      go_wp2
      obtain ⟨w1, hw_w1⟩ : ∃ q, q = (w.alloc (.cells #[.slice (some ad) a.n c, .int .i64 a.m.wd, .int .i64 a.m.mt, .int .i64 a.m.sk, .int .i64 a.m.th, .int .i64 a.ck] 26)) := ⟨_, rfl⟩
      rw [← hw_w1]
      have q10 : w1.cell? ⟨w.heap.size, 0, none⟩ = some (.slice (some ad) a.n c) := by rw [hw_w1]; simp [go_sem]
      have q11 : w1.cell? ⟨w.heap.size, 1, none⟩ = some (.int .i64 a.m.wd) := by rw [hw_w1]; simp [go_sem]
      have q12 : w1.cell? ⟨w.heap.size, 2, none⟩ = some (.int .i64 a.m.mt) := by rw [hw_w1]; simp [go_sem]
      have q13 : w1.cell? ⟨w.heap.size, 3, none⟩ = some (.int .i64 a.m.sk) := by rw [hw_w1]; simp [go_sem]
      have q14 : w1.cell? ⟨w.heap.size, 4, none⟩ = some (.int .i64 a.m.th) := by rw [hw_w1]; simp [go_sem]
      have q15 : w1.cell? ⟨w.heap.size, 5, none⟩ = some (.int .i64 a.ck) := by rw [hw_w1]; simp [go_sem]
      have H1 : Hid (Below w.heap.size w w1) := Lib.hid (by rw [hw_w1]; exact (by repeat (first | exact Below.refl _ _ | refine Below.drew ?_ | refine below_drewN ?_ _ | refine Below.setCell ?_ (by first | omega | (simp; done) | (simp; omega)) _ | refine Below.alloc ?_ (by first | omega | (simp; done) | (simp; omega)) _)))
      have z1 : w1.heap.size = w.heap.size + 1 := by rw [hw_w1]; simp
      clear hw_w1
      go_loopw [4] (fun s4 wr => ∃ k : Nat, k ≤ a.n ∧ s4 = .int .i64 (k : Int) ∧ ffE g k (a.n - k) = E0 ∧ ffI g k (a.n - k) = I0 ∧ Below w1.heap.size w1 wr) (fun s4 _ => a.n - (intOf s4).toNat)
      case atStart => exact ⟨0, Nat.zero_le _, rfl, EQ.out, IQ.out, Below.refl _ _⟩
      case round =>
        obtain ⟨k, hk, rfl, hE, hI, hb⟩ := hrel
        have HE := Lib.hid hE; have HI := Lib.hid hI; clear hE hI
        have HB := Lib.hid hb
        have HW : Hid (Below w.heap.size w wr) := Lib.hid (below_then H1.out hb)
        have r0 : wr.cell? ⟨w.heap.size, 0, none⟩ = some (.slice (some ad) a.n c) := cell_later hb q10
        have r1 : wr.cell? ⟨w.heap.size, 1, none⟩ = some (.int .i64 a.m.wd) := cell_later hb q11
        have r2 : wr.cell? ⟨w.heap.size, 2, none⟩ = some (.int .i64 a.m.mt) := cell_later hb q12
        have r3 : wr.cell? ⟨w.heap.size, 3, none⟩ = some (.int .i64 a.m.sk) := cell_later hb q13
        have r4 : wr.cell? ⟨w.heap.size, 4, none⟩ = some (.int .i64 a.m.th) := cell_later hb q14
        have r5 : wr.cell? ⟨w.heap.size, 5, none⟩ = some (.int .i64 a.ck) := cell_later hb q15
        have zr0 := World.block_lt_of_cell? _ _ r0
        dsimp only at zr0
        by_cases hlt : k < a.n
        · obtain ⟨c0, c1⟩ := (HX.out.later HW.out).at hlt
          have j0 : (0 : Int) ≤ (k : Int) := Int.natCast_nonneg _
          have j1 : (k : Int) < (a.n : Int) := by omega
          have j8 : (k : Int) < 1000 := by omega
          have GK := Lib.hid (GE.out k)
          have HK := Lib.hid (fun w => HSP.out (a.p k).x (a.p k).z w)
          have PK := Lib.hid (P2.out (a.p k).x (a.p k).z)
          clear hb
          generalize placeE (a.p k).x (a.p k).z = u at *
          generalize (a.p k).x = px at *
          generalize (a.p k).z = pz at *
          go_wp2_with fail
          refine (HK.out _).mono ?_
          rintro e w3 ⟨rfl, hb3⟩
          have s0 := cell_later hb3 r0; have s1 := cell_later hb3 r1; have s2 := cell_later hb3 r2; have s3 := cell_later hb3 r3; have s4 := cell_later hb3 r4; have s5 := cell_later hb3 r5
          have d0 := cell_later hb3 c0; have d1 := cell_later hb3 c1
          have B3 : Hid (Below w1.heap.size w1 w3) := Lib.hid (below_then HB.out hb3)
          have W3 : Hid (Below w.heap.size w w3) := Lib.hid (below_then HW.out hb3)
          clear hb3 r0 r1 r2 r3 r4 r5 c0 c1
          by_cases hu : u = 0
          · have gk := GK.out
            rw [if_pos hu] at gk
            subst hu
            by_cases hz : pz < 0
            · have gz : g k = 0 := by rw [gk, show decide (pz < 0) = true by simpa using hz]; rfl
              have GZ := Lib.hid gz
              have n3 : decide ((0 : Int) ≤ pz) = false := by simp; omega
              clear gk gz hz
              go_wp2
              go_roundw
              case rel => exact ⟨k + 1, by omega, by go_num, by rw [← HE.out, FS.out k a.n hlt, if_pos GZ.out], by rw [← HI.out, IS.out k a.n hlt, if_pos GZ.out], B3.out⟩
              case measure => simp [intOf]; omega
            · have gz : g k = 15 := by rw [gk, show decide (pz < 0) = false by simpa using hz]; rfl
              have ne : ¬ g k = 0 := by rw [gz]; decide
              have n3 : decide ((0 : Int) ≤ pz) = true := by simp; omega
              have EE : Hid (E0 = 15) := Lib.hid (by rw [← HE.out, FS.out k a.n hlt, if_neg ne]; exact gz)
              have II : Hid (I0 = k) := Lib.hid (by rw [← HI.out, IS.out k a.n hlt, if_neg ne])
              clear gk gz ne hz
              go_wp2
              go_ret2
              exact ⟨by rw [F2.out (by rw [EE.out]; decide), EE.out, II.out]; rfl, W3.out⟩
          · have gk := GK.out
            rw [if_neg hu] at gk
            have u2 : u = 2 := PK.out.resolve_left hu
            have ne : ¬ g k = 0 := by rw [gk]; exact hu
            have EE : Hid (E0 = 2) := Lib.hid (by rw [← HE.out, FS.out k a.n hlt, if_neg ne, gk, u2])
            have II : Hid (I0 = k) := Lib.hid (by rw [← HI.out, IS.out k a.n hlt, if_neg ne])
            clear gk ne hu
            subst u2
            go_wp2
            go_ret2
            exact ⟨by rw [F2.out (by rw [EE.out]; decide), EE.out, II.out]; rfl, W3.out⟩
        · have hk' : k = a.n := by omega
          have hE0 : E0 = 0 := by rw [← HE.out, hk', Nat.sub_self]; rfl
          have hI0 : I0 = 0 := by rw [← HI.out, hk', Nat.sub_self]; rfl
          have kk : decide ((k : Int) < (a.n : Int)) = false := by simp; omega
          have HE0 := Lib.hid hE0; have HI0 := Lib.hid hI0
          clear hE0 hI0 hk' hb
          go_wp2_with fail
          refine (HM.out _).mono ?_
          rintro e w3 ⟨rfl, hb3⟩
          have s0 := cell_later hb3 r0; have s5 := cell_later hb3 r5
          have W3 : Hid (Below w.heap.size w w3) := Lib.hid (below_then HW.out hb3)
          clear hb3 r0 r1 r2 r3 r4 r5
          by_cases hu : um = 0
          · subst hu
            go_wp2_with (go_at_call 31; (with_reducible refine (rClock_any _ _).mono ?_); rintro e w' ⟨rfl, rfl⟩)
            go_ret2
            exact ⟨by rw [F0.out HE0.out (by first | rfl | trivial), HI0.out]; rfl, W3.out⟩
          · have F1' := Lib.hid (F1.out HE0.out hu)
            have n4 : (um != 0) = true := by simpa using hu
            clear hu
            go_wp2
            go_ret2
            exact ⟨by rw [F1'.out, HI0.out]; rfl, W3.out⟩
theorem Dl.E_cases (d : Dl) : d.E = if unl (inB d.ck 1 1000000) 2 = 0 then (if ctE d.n 16 = 0 then ffE d.g 0 d.n else ctE d.n 16) else unl (inB d.ck 1 1000000) 2 := by
  unfold Dl.E Dl.E1
  by_cases q : unl (inB d.ck 1 1000000) 2 = 0
  · rw [if_pos q, q]
    by_cases r : ctE d.n 16 = 0 <;> simp [fst, r]
  · rw [if_neg q]; simp [fst, q]
theorem Dl.I_cases (d : Dl) : d.I = if unl (inB d.ck 1 1000000) 2 = 0 then (if ctE d.n 16 = 0 then ffI d.g 0 d.n else 0) else 0 := by
  unfold Dl.I Dl.E1
  by_cases q : unl (inB d.ck 1 1000000) 2 = 0
  · rw [if_pos q, q]
    by_cases r : ctE d.n 16 = 0 <;> simp [fst, r]
  · rw [if_neg q]; simp [fst, q]
set_option maxRecDepth 100000 in
set_option maxHeartbeats 1000000 in
theorem rCheckLaw_any (d : Dl) (A : Option Addr) (c : Nat) (w : World) (h : InAt A d.n d.t w) (hm : d.n ≤ 9223372036854775807) :
    Calls Tryz.prog 55 #[.agg #[.int .i64 d.ck, .slice A d.n c]] w fun e w' => e = .returned (.tuple #[.int .i64 (d.I : Nat), .int .i64 d.E]) ∧ Below w.heap.size w w' := by
  have HX := Lib.hid h; clear h
  have b0 : (0 : Int) ≤ (d.n : Int) := Int.natCast_nonneg _
  rw [Dl.E_cases d, Dl.I_cases d]
  have HCK := Lib.hid (fun w => rClock_any d.ck w)
  have G2 : Hid (∀ i, d.g i = unl (inB (d.t i) (-1) 1000000) 2) := Lib.hid (fun i => rfl)
  have FS := Lib.hid (ffE_step d.g); have IS := Lib.hid (ffI_step d.g)
  generalize unl (inB d.ck 1 1000000) 2 = uc at *
  by_cases hc : uc = 0
  · subst hc
    rw [if_pos rfl, if_pos rfl]
    by_cases h0 : d.n = 0
    · rw [ctE_none _ h0]
      have n1 : ((d.n : Int) == 0) = true := by simp; omega
      rw [if_neg (by decide), if_neg (by decide)]
      go_enter Tryz.func55, Tryz.ntmps55
      go_wp2_with (go_at_call 31; (with_reducible refine (HCK.out _).mono ?_); rintro e w' ⟨rfl, rfl⟩)
      go_ret2
      exact ⟨rfl, (by repeat (first | exact Below.refl _ _ | refine Below.drew ?_ | refine below_drewN ?_ _ | refine Below.setCell ?_ (by first | omega | (simp; done) | (simp; omega)) _ | refine Below.alloc ?_ (by first | omega | (simp; done) | (simp; omega)) _))⟩
    · have n1 : ((d.n : Int) == 0) = false := by simp; omega
      by_cases h1 : 16 < d.n
      · rw [ctE_big _ h1]
        have n2 : decide ((16 : Int) < (d.n : Int)) = true := by simp; omega
        rw [if_neg (by decide), if_neg (by decide)]
        go_enter Tryz.func55, Tryz.ntmps55
        go_wp2_with (go_at_call 31; (with_reducible refine (HCK.out _).mono ?_); rintro e w' ⟨rfl, rfl⟩)
        go_ret2
        exact ⟨rfl, (by repeat (first | exact Below.refl _ _ | refine Below.drew ?_ | refine below_drewN ?_ _ | refine Below.setCell ?_ (by first | omega | (simp; done) | (simp; omega)) _ | refine Below.alloc ?_ (by first | omega | (simp; done) | (simp; omega)) _))⟩
      · have n2 : decide ((16 : Int) < (d.n : Int)) = false := by simp; omega
        have hc := ctE_ok d.n (by omega) (by omega)
        rw [hc, if_pos rfl, if_pos rfl]
        generalize hEq : ffE d.g 0 d.n = E0 at *
        generalize hIq : ffI d.g 0 d.n = I0 at *
        have EQ := Lib.hid hEq; have IQ := Lib.hid hIq; clear hEq hIq
        generalize d.g = g at *
        clear hc
        obtain ⟨ad, hA⟩ := HX.out.some (by omega)
        subst hA
        go_enter Tryz.func55, Tryz.ntmps55
        go_wp2_with (go_at_call 31; (with_reducible refine (HCK.out _).mono ?_); rintro e w' ⟨rfl, rfl⟩)
        obtain ⟨w1, hw_w1⟩ : ∃ q, q = (w.alloc (.cells #[.int .i64 d.ck, .slice (some ad) d.n c] 33)) := ⟨_, rfl⟩
        rw [← hw_w1]
        have q10 : w1.cell? ⟨w.heap.size, 0, none⟩ = some (.int .i64 d.ck) := by rw [hw_w1]; simp [go_sem]
        have q11 : w1.cell? ⟨w.heap.size, 1, none⟩ = some (.slice (some ad) d.n c) := by rw [hw_w1]; simp [go_sem]
        have H1 : Hid (Below w.heap.size w w1) := Lib.hid (by rw [hw_w1]; exact (by repeat (first | exact Below.refl _ _ | refine Below.drew ?_ | refine below_drewN ?_ _ | refine Below.setCell ?_ (by first | omega | (simp; done) | (simp; omega)) _ | refine Below.alloc ?_ (by first | omega | (simp; done) | (simp; omega)) _)))
        have z1 : w1.heap.size = w.heap.size + 1 := by rw [hw_w1]; simp
        clear hw_w1
        go_loopw [5] (fun s5 wr => ∃ k : Nat, k ≤ d.n ∧ s5 = .int .i64 (k : Int) ∧ ffE g k (d.n - k) = E0 ∧ ffI g k (d.n - k) = I0 ∧ Below w1.heap.size w1 wr) (fun s5 _ => d.n - (intOf s5).toNat)
        case atStart => exact ⟨0, Nat.zero_le _, rfl, EQ.out, IQ.out, Below.refl _ _⟩
        case round =>
          obtain ⟨k, hk, rfl, hE, hI, hb⟩ := hrel
          have HE := Lib.hid hE; have HI := Lib.hid hI; clear hE hI
          have HB := Lib.hid hb
          have HW : Hid (Below w.heap.size w wr) := Lib.hid (below_then H1.out hb)
          have r0 : wr.cell? ⟨w.heap.size, 0, none⟩ = some (.int .i64 d.ck) := cell_later hb q10
          have r1 : wr.cell? ⟨w.heap.size, 1, none⟩ = some (.slice (some ad) d.n c) := cell_later hb q11
          have zr0 := World.block_lt_of_cell? _ _ r0
          dsimp only at zr0
          by_cases hlt : k < d.n
          · have c0 := (HX.out.later HW.out).at hlt
            have j0 : (0 : Int) ≤ (k : Int) := Int.natCast_nonneg _
            have j1 : (k : Int) < (d.n : Int) := by omega
            have j8 : (k : Int) < 1000 := by omega
            have GK := Lib.hid (G2.out k)
            clear hb
            generalize d.t k = x at *
            by_cases hu : inB x (-1) 1000000 = true
            · have gz : g k = 0 := by rw [GK.out, hu]; rfl
              have GZ := Lib.hid gz; have IH := Lib.hid hu
              clear gz hu
              go_wp2_with (go_at_call 16; (with_reducible refine (within_any _ _ _ _).mono ?_); (first | rw [IH.out]); rintro e w' ⟨rfl, rfl⟩)
              go_roundw
              case rel => exact ⟨k + 1, by omega, by go_num, by rw [← HE.out, FS.out k d.n hlt, if_pos GZ.out], by rw [← HI.out, IS.out k d.n hlt, if_pos GZ.out], HB.out⟩
              case measure => simp [intOf]; omega
            · have hu' : inB x (-1) 1000000 = false := by simpa using hu
              have gz : g k = 2 := by rw [GK.out, hu']; rfl
              have ne : ¬ g k = 0 := by rw [gz]; decide
              have EE : Hid (E0 = 2) := Lib.hid (by rw [← HE.out, FS.out k d.n hlt, if_neg ne]; exact gz)
              have II : Hid (I0 = k) := Lib.hid (by rw [← HI.out, IS.out k d.n hlt, if_neg ne])
              have IH := Lib.hid hu'
              clear gz ne hu hu'
              go_wp2_with (go_at_call 16; (with_reducible refine (within_any _ _ _ _).mono ?_); (first | rw [IH.out]); rintro e w' ⟨rfl, rfl⟩)
              go_ret2
              exact ⟨by rw [EE.out, II.out]; rfl, HW.out⟩
          · have hk' : k = d.n := by omega
            have hE0 : E0 = 0 := by rw [← HE.out, hk', Nat.sub_self]; rfl
            have hI0 : I0 = 0 := by rw [← HI.out, hk', Nat.sub_self]; rfl
            have kk : decide ((k : Int) < (d.n : Int)) = false := by simp; omega
            have HE0 := Lib.hid hE0; have HI0 := Lib.hid hI0
            clear hE0 hI0 hk' hb
            go_wp2
            go_ret2
            exact ⟨by rw [HE0.out, HI0.out]; rfl, HW.out⟩
  · rw [if_neg hc, if_neg hc]
    have n1 : (uc != 0) = true := by simpa using hc
    clear hc
    go_enter Tryz.func55, Tryz.ntmps55
    go_wp2_with (go_at_call 31; (with_reducible refine (HCK.out _).mono ?_); rintro e w' ⟨rfl, rfl⟩)
    go_ret2
    exact ⟨rfl, (by repeat (first | exact Below.refl _ _ | refine Below.drew ?_ | refine below_drewN ?_ _ | refine Below.setCell ?_ (by first | omega | (simp; done) | (simp; omega)) _ | refine Below.alloc ?_ (by first | omega | (simp; done) | (simp; omega)) _))⟩
set_option maxRecDepth 100000 in
set_option maxHeartbeats 1000000 in
theorem wLawErr_any (d : Dl) (A : Option Addr) (c : Nat) (w : World) (h : InAt A d.n d.t w) (hm : d.n ≤ 9223372036854775807) :
    Calls Tryz.prog 29 #[.agg #[.int .i64 d.ck, .slice A d.n c]] w fun e w' => e = .returned (.int .i64 d.E) ∧ Below w.heap.size w w' := by
  have HX := Lib.hid h; clear h
  have HL := Lib.hid (fun w h => rCheckLaw_any d A c w h hm)
  generalize d.E = u at *
  generalize (d.I : Int) = v at *
  go_enter Tryz.func29, Tryz.ntmps29
  go_wp2_with fail
  refine (HL.out _ (HX.out.later ((Below.refl _ _).alloc (Nat.le_refl _) _))).mono ?_
  rintro e w1 ⟨rfl, hb1⟩

  have H1 : Hid (Below w.heap.size w w1) := Lib.hid (below_after (by repeat (first | exact Below.refl _ _ | refine Below.drew ?_ | refine below_drewN ?_ _ | refine Below.setCell ?_ (by first | omega | (simp; done) | (simp; omega)) _ | refine Below.alloc ?_ (by first | omega | (simp; done) | (simp; omega)) _)) hb1 (by first | omega | (simp; done) | (simp; omega))); clear hb1
  go_wp2
  go_ret
  exact ⟨rfl, H1.out⟩
end Go.Proofs.YtkkaomgdlnejcaaGreatDoor
