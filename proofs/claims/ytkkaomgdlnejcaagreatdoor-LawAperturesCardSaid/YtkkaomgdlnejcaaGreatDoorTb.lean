/- LawApertures: the walk -/
import Derived.Test.YtkkaomgdlnejcaaGreatDoorTa
import Derived.Test.YtkkaomgdlnejcaaGreatDoorVs
import Derived.Test.YtkkaomgdlnejcaaGreatDoorV9
import Derived.Test.YtkkaomgdlnejcaaGreatDoorU2
namespace Go.Proofs.YtkkaomgdlnejcaaGreatDoor
open Go.RowKit Go.Shelf RayM
set_option linter.unusedSimpArgs false
set_option linter.unusedVariables false
set_option maxRecDepth 100000 in
set_option maxHeartbeats 1000000 in
theorem few_any (n : Int) (w : World) :
    Calls Tryz.prog 9 #[.int .i64 n] w fun e w' => e = .returned (.bool (decide (n ≤ 18))) ∧ w = w' := by
  go_enter Tryz.func9, Tryz.ntmps9
  go_wp2
  go_ret
  exact ⟨rfl, rfl⟩
theorem ap_bad (a : La) (d : Dl) (h : paE a d ≠ 0) : apE a d = paE a d ∧ apLo a d = 0 ∧ apHi a d = 0 := by
  have e1 : apE a d = paE a d := by unfold apE; rw [if_neg h]
  refine ⟨e1, ?_, ?_⟩
  · unfold apLo; rw [e1, if_neg h]
  · unfold apHi; rw [e1, if_neg h]
set_option maxRecDepth 100000 in
set_option maxHeartbeats 6000000 in
theorem apertures_any (a : La) (d : Dl) (A : Option Addr) (c : Nat) (B : Option Addr) (e : Nat) (w : World) (hL : Laid w) (AWK : Hid (∀ w, Laid w → Calls Tryz.prog 8 #[] w fun e w' => e = .returned (.bool true) ∧ Below w.heap.size w w')) (hA : A = none → a.n = 0 ∧ c = 0) (hB : B = none → d.n = 0 ∧ e = 0) (h : SpAt A a.n a.p w) (g : InAt B d.n d.t w) :
    Calls Tryz.prog 7 #[.agg #[.slice A a.n c, .int .i64 a.m.wd, .int .i64 a.m.mt, .int .i64 a.m.sk, .int .i64 a.m.th, .int .i64 a.ck], .agg #[.int .i64 d.ck, .slice B d.n e]] w fun e w' => e = .returned (.bool true) ∧ Below w.heap.size w w' := by
  have HX := Lib.hid h; clear h
  have HT := Lib.hid g; clear g
  have LH := Lib.hid hL; clear hL
  by_cases h1 : a.n ≤ 18
  · have FA : Hid (decide ((a.n : Int) ≤ 18) = true) := Lib.hid (by simp; omega)
    by_cases h2 : d.n ≤ 18
    · have FD : Hid (decide ((d.n : Int) ≤ 18) = true) := Lib.hid (by simp; omega)
      have HCA : Hid (∀ w', SpAt A a.n a.p w' → Calls Tryz.prog 11 #[.agg #[.slice A a.n c, .int .i64 a.m.wd, .int .i64 a.m.mt, .int .i64 a.m.sk, .int .i64 a.m.th, .int .i64 a.ck]] w' fun e w'' => ∃ A1 c1, e = .returned (.agg #[.slice A1 a.n c1, .int .i64 a.m.wd, .int .i64 a.m.mt, .int .i64 a.m.sk, .int .i64 a.m.th, .int .i64 a.ck]) ∧ SpAt A1 a.n a.p w'' ∧ Below w'.heap.size w' w'') := Lib.hid (fun w' h => (copyArray_any a A c w' (by omega) hA h).mono (fun e w'' ⟨v, e1, ho, hb⟩ => by
        obtain ⟨A1, c1, rfl, _, hs⟩ := own_spots ho
        exact ⟨A1, c1, e1, hs, hb⟩))
      have HCL : Hid (∀ w', InAt B d.n d.t w' → Calls Tryz.prog 18 #[.agg #[.int .i64 d.ck, .slice B d.n e]] w' fun e_ w'' => ∃ A1 c1, e_ = .returned (.agg #[.int .i64 d.ck, .slice A1 d.n c1]) ∧ InAt A1 d.n d.t w'' ∧ Below w'.heap.size w' w'') := Lib.hid (fun w' h => (copyLaw_any d B e w' (by omega) hB h).mono (fun e w'' ⟨v, e1, ho, hb⟩ => by
        obtain ⟨A1, c1, rfl, hz, hs⟩ := own_ints2 ho
        exact ⟨A1, c1, e1, hs, hb⟩))
      have HAP := Lib.hid (fun A1 c1 B1 e1 w' h g => aperture_any a d A1 c1 B1 e1 w' h g (by omega) (by omega))
      have HPR := Lib.hid (fun w' h g => rPairErr_any a d A c B e w' h g (by omega) (by omega))
      have HRA : Hid (paE a d = 0 → ∀ w', SpAt A a.n a.p w' → InAt B d.n d.t w' → Calls Tryz.prog 36 #[.agg #[.slice A a.n c, .int .i64 a.m.wd, .int .i64 a.m.mt, .int .i64 a.m.sk, .int .i64 a.m.th, .int .i64 a.ck], .agg #[.int .i64 d.ck, .slice B d.n e]] w' fun e_ w'' => e_ = .returned (.tuple #[.agg #[.int .i64 (apLo a d), .int .i64 (apHi a d)], .int .i64 (apE a d)]) ∧ Below w'.heap.size w' w'') := Lib.hid (fun q w' h g => rAperture_any a d A c B e w' q h g)
      have P1 := Lib.hid (ap_bad a d)
      generalize apE a d = E5 at *
      generalize apLo a d = lo at *
      generalize apHi a d = hi at *
      generalize paE a d = pe at *
      clear hA hB
      go_enter Tryz.func7, Tryz.ntmps7
      go_wp2_with fail
      refine (AWK.out _ (LH.out.later (by repeat (first | exact Below.refl _ _ | refine Below.drew ?_ | refine below_drewN ?_ _ | refine Below.setCell ?_ (by first | omega | (simp; done) | (simp; omega)) _ | refine Below.alloc ?_ (by first | omega | (simp; done) | (simp; omega)) _)))).mono ?_
      rintro e w1 ⟨rfl, hb1⟩
      have qw10 : w1.cell? ⟨w.heap.size, 0, none⟩ = some (.slice A a.n c) := cell_later hb1 (by simp [go_sem])
      have qw11 : w1.cell? ⟨w.heap.size, 1, none⟩ = some (.int .i64 a.m.wd) := cell_later hb1 (by simp [go_sem])
      have qw12 : w1.cell? ⟨w.heap.size, 2, none⟩ = some (.int .i64 a.m.mt) := cell_later hb1 (by simp [go_sem])
      have qw13 : w1.cell? ⟨w.heap.size, 3, none⟩ = some (.int .i64 a.m.sk) := cell_later hb1 (by simp [go_sem])
      have qw14 : w1.cell? ⟨w.heap.size, 4, none⟩ = some (.int .i64 a.m.th) := cell_later hb1 (by simp [go_sem])
      have qw15 : w1.cell? ⟨w.heap.size, 5, none⟩ = some (.int .i64 a.ck) := cell_later hb1 (by simp [go_sem])
      have qw16 : w1.cell? ⟨w.heap.size + 1, 0, none⟩ = some (.int .i64 d.ck) := cell_later hb1 (by simp [go_sem])
      have qw17 : w1.cell? ⟨w.heap.size + 1, 1, none⟩ = some (.slice B d.n e) := cell_later hb1 (by simp [go_sem])
      have zqw1_0 := World.block_lt_of_cell? _ _ qw10
      dsimp only at zqw1_0
      have zqw1_6 := World.block_lt_of_cell? _ _ qw16
      dsimp only at zqw1_6
      have H1 : Hid (Below w.heap.size w w1) := Lib.hid (below_after (by repeat (first | exact Below.refl _ _ | refine Below.drew ?_ | refine below_drewN ?_ _ | refine Below.setCell ?_ (by first | omega | (simp; done) | (simp; omega)) _ | refine Below.alloc ?_ (by first | omega | (simp; done) | (simp; omega)) _)) hb1 (by first | omega | (simp; done) | (simp; omega))); clear hb1
      have R1_0 := Lib.hid (HX.out.later H1.out)
      have R1_1 := Lib.hid (HT.out.later H1.out)
      go_upto_region 5 with (go_at_call 9; (with_reducible refine (few_any _ _).mono ?_); (first | rw [FA.out] | rw [FD.out]); rintro e w' ⟨rfl, rfl⟩)
      have hS : Below w1.heap.size w1 w1 := Below.refl _ _
      go_cut [5, 6] (fun s5 s6 wx => ∃ T : Nat, s5 = .pointer (some ⟨T, 0, none⟩) ∧ s6 = .int .i64 E5 ∧ wx.cell? ⟨T, 0, none⟩ = some (.int .i64 lo) ∧ wx.cell? ⟨T, 1, none⟩ = some (.int .i64 hi) ∧ Below w1.heap.size w1 wx)
      case first =>
        as_aux_lemma =>
          go_region_held3 (fun w' => w'.cell? ⟨w.heap.size, 0, none⟩ = some (.slice A a.n c) ∧ w'.cell? ⟨w.heap.size, 1, none⟩ = some (.int .i64 a.m.wd) ∧ w'.cell? ⟨w.heap.size, 2, none⟩ = some (.int .i64 a.m.mt) ∧ w'.cell? ⟨w.heap.size, 3, none⟩ = some (.int .i64 a.m.sk) ∧ w'.cell? ⟨w.heap.size, 4, none⟩ = some (.int .i64 a.m.th) ∧ w'.cell? ⟨w.heap.size, 5, none⟩ = some (.int .i64 a.ck) ∧ w'.cell? ⟨w.heap.size + 1, 0, none⟩ = some (.int .i64 d.ck) ∧ w'.cell? ⟨w.heap.size + 1, 1, none⟩ = some (.slice B d.n e) ∧ Below w1.heap.size w1 w') (((go_split_ands; (repeat' apply And.intro) <;> ((repeat (first | (with_reducible assumption) | (with_reducible exact Below.refl _ _) | (with_reducible refine cell_alloc_later ?_ _) | (with_reducible refine cell_drewA ?_) | (with_reducible refine cellA (by with_reducible assumption) ?_) | (with_reducible refine belowA ?_ (by with_reducible assumption)) | (with_reducible refine below_alloc_top ?_ _) | (with_reducible refine Below.drew ?_) | (with_reducible refine cell_set_old ?_ (by with_reducible assumption)) | (with_reducible refine below_set_old ?_ (by with_reducible assumption)) | (with_reducible refine Below.setCell ?_ (by first | omega | (simp; done) | (simp; omega)) _) | (simp [go_sem, World.cell?_alloc_past, *]; done))); done))))
            (first
              | (go_split_ands; go_at_call 11; (with_reducible refine (HCA.out _ (R1_0.out.later (by with_reducible assumption))).mono ?_); rintro e w' ⟨A1, c1, rfl, hs, hb⟩; have hbA : BelA _ w' := hb; obtain ⟨hc', hf'⟩ := bcell hb; have hz' := hb.size; (try simp at hz'); (first | (have tF' := Nat.lt_of_succ_le hz') | (have tF' := Nat.lt_of_lt_of_le tF' hz') | skip); clear hb)
              | (go_split_ands; go_at_call 18; (with_reducible refine (HCL.out _ (R1_1.out.later (by with_reducible assumption))).mono ?_); rintro e w' ⟨A2, c2, rfl, hi_, hb⟩; have hbA : BelA _ w' := hb; obtain ⟨hc', hf'⟩ := bcell hb; have hz' := hb.size; (try simp at hz'); (first | (have tF' := Nat.lt_of_succ_le hz') | (have tF' := Nat.lt_of_lt_of_le tF' hz') | skip); clear hb)
              | (go_split_ands; go_at_call 35; (with_reducible refine (HAP.out _ _ _ _ _ (by repeat (first | (with_reducible assumption) | (with_reducible refine SpAt.laterA (by with_reducible assumption) ?_) | (with_reducible refine SpAt.alloc ?_ _) | (with_reducible refine SpAt.drew ?_))) (by repeat (first | (with_reducible assumption) | (with_reducible refine InAt.laterA (by with_reducible assumption) ?_) | (with_reducible refine InAt.alloc ?_ _) | (with_reducible refine InAt.drew ?_)))).mono ?_); rintro e w' ⟨rfl, hb⟩; have hbA : BelA _ w' := hb; obtain ⟨hc', hf'⟩ := bcell hb; have hz' := hb.size; (try simp at hz'); (first | (have tF' := Nat.lt_of_succ_le hz') | (have tF' := Nat.lt_of_lt_of_le tF' hz') | skip); clear hb))
          all_goals
            go_split_ands
            go_wp2_with fail
            go_meet
            exact ⟨_, rfl, rfl, (by first | (with_reducible assumption) | (simp [go_sem, World.cell?_alloc_past, *]; done)), (by first | (with_reducible assumption) | (simp [go_sem, World.cell?_alloc_past, *]; done)), (by first | (with_reducible assumption) | (simp [go_sem, World.cell?_alloc_past, *]; done))⟩
      case rest =>
        obtain ⟨T, rfl, rfl, t0, t1, bel⟩ := hcut
        clear hS
        obtain ⟨wB, hw_⟩ : ∃ q, q = wc := ⟨_, rfl⟩
        subst hw_
        have k2_0 := cell_later bel qw10
        have k2_1 := cell_later bel qw11
        have k2_2 := cell_later bel qw12
        have k2_3 := cell_later bel qw13
        have k2_4 := cell_later bel qw14
        have k2_5 := cell_later bel qw15
        have k2_6 := cell_later bel qw16
        have k2_7 := cell_later bel qw17
        have R2_0 := Lib.hid (R1_0.out.later bel)
        have R2_1 := Lib.hid (R1_1.out.later bel)
        have B2 : Hid (Below w.heap.size w wB) := Lib.hid (below_then H1.out bel)
        clear qw10 qw11 qw12 qw13 qw14 qw15 qw16 qw17 R1_0 R1_1 H1
        have z2_0 := World.block_lt_of_cell? _ _ k2_0
        (try dsimp only at z2_0)
        have z2_6 := World.block_lt_of_cell? _ _ k2_6
        (try dsimp only at z2_6)
        clear bel
        have zT := World.block_lt_of_cell? _ _ t0
        (try dsimp only at zT)
        go_wp2_with fail
        refine (HPR.out _ R2_0.out R2_1.out).mono ?_
        rintro e_ wC ⟨rfl, hb⟩
        have k3_0 := cell_later hb k2_0
        have k3_1 := cell_later hb k2_1
        have k3_2 := cell_later hb k2_2
        have k3_3 := cell_later hb k2_3
        have k3_4 := cell_later hb k2_4
        have k3_5 := cell_later hb k2_5
        have k3_6 := cell_later hb k2_6
        have k3_7 := cell_later hb k2_7
        have k3_8 := cell_later hb t0
        have k3_9 := cell_later hb t1
        have R3_0 := Lib.hid (R2_0.out.later hb)
        have R3_1 := Lib.hid (R2_1.out.later hb)
        have B3 : Hid (Below w.heap.size w wC) := Lib.hid (below_then B2.out hb)
        clear k2_0 k2_1 k2_2 k2_3 k2_4 k2_5 k2_6 k2_7 t0 t1 R2_0 R2_1 B2
        have z3_0 := World.block_lt_of_cell? _ _ k3_0
        (try dsimp only at z3_0)
        have z3_6 := World.block_lt_of_cell? _ _ k3_6
        (try dsimp only at z3_6)
        have z3_8 := World.block_lt_of_cell? _ _ k3_8
        (try dsimp only at z3_8)
        clear hb
        go_upto_region 8 with fail
        obtain ⟨wD, hw_⟩ : ∃ q, q = wC.alloc (.cells #[.int .i64 0, .int .i64 0] 74) := ⟨_, rfl⟩
        rw [← hw_]
        have hb : Below wC.heap.size wC wD := by rw [hw_]; exact (Below.refl _ _).alloc (Nat.le_refl _) _
        have n4_0 : wD.cell? ⟨wC.heap.size, 0, none⟩ = some (.int .i64 0) := by rw [hw_]; simp [go_sem]
        have n4_1 : wD.cell? ⟨wC.heap.size, 1, none⟩ = some (.int .i64 0) := by rw [hw_]; simp [go_sem]
        have g4_0 : wD.frozen? ⟨wC.heap.size, 0, none⟩ = false := by rw [hw_]; simp [go_sem]
        have g4_1 : wD.frozen? ⟨wC.heap.size, 1, none⟩ = false := by rw [hw_]; simp [go_sem]
        have k4_0 := cell_later hb k3_0
        have k4_1 := cell_later hb k3_1
        have k4_2 := cell_later hb k3_2
        have k4_3 := cell_later hb k3_3
        have k4_4 := cell_later hb k3_4
        have k4_5 := cell_later hb k3_5
        have k4_6 := cell_later hb k3_6
        have k4_7 := cell_later hb k3_7
        have k4_8 := cell_later hb k3_8
        have k4_9 := cell_later hb k3_9
        have R4_0 := Lib.hid (R3_0.out.later hb)
        have R4_1 := Lib.hid (R3_1.out.later hb)
        have B4 : Hid (Below w.heap.size w wD) := Lib.hid (below_then B3.out hb)
        clear k3_0 k3_1 k3_2 k3_3 k3_4 k3_5 k3_6 k3_7 k3_8 k3_9 R3_0 R3_1 B3
        have z4_0 := World.block_lt_of_cell? _ _ k4_0
        (try dsimp only at z4_0)
        have z4_6 := World.block_lt_of_cell? _ _ k4_6
        (try dsimp only at z4_6)
        have z4_8 := World.block_lt_of_cell? _ _ k4_8
        (try dsimp only at z4_8)
        have zn4 : wC.heap.size < wD.heap.size := by rw [hw_]; simp
        clear hb hw_
        by_cases hE : pe = 0
        · have HRA' := Lib.hid (HRA.out hE)
          subst hE
          clear HRA P1 HPR HAP
          go_wp2_with fail
          refine (HRA'.out _ R4_0.out R4_1.out).mono ?_
          rintro e_ wE ⟨rfl, hb⟩
          have k5_0 := cell_later hb k4_0
          have k5_1 := cell_later hb k4_1
          have k5_2 := cell_later hb k4_2
          have k5_3 := cell_later hb k4_3
          have k5_4 := cell_later hb k4_4
          have k5_5 := cell_later hb k4_5
          have k5_6 := cell_later hb k4_6
          have k5_7 := cell_later hb k4_7
          have k5_8 := cell_later hb k4_8
          have k5_9 := cell_later hb k4_9
          have k5_10 := cell_later hb n4_0
          have k5_11 := cell_later hb n4_1
          have f5_0 := frozen_after hb n4_0 g4_0
          have f5_1 := frozen_after hb n4_1 g4_1
          have R5_0 := Lib.hid (R4_0.out.later hb)
          have R5_1 := Lib.hid (R4_1.out.later hb)
          have B5 : Hid (Below w.heap.size w wE) := Lib.hid (below_then B4.out hb)
          clear k4_0 k4_1 k4_2 k4_3 k4_4 k4_5 k4_6 k4_7 k4_8 k4_9 n4_0 n4_1 g4_0 g4_1 R4_0 R4_1 B4
          have z5_0 := World.block_lt_of_cell? _ _ k5_0
          (try dsimp only at z5_0)
          have z5_6 := World.block_lt_of_cell? _ _ k5_6
          (try dsimp only at z5_6)
          have z5_8 := World.block_lt_of_cell? _ _ k5_8
          (try dsimp only at z5_8)
          have z5_10 := World.block_lt_of_cell? _ _ k5_10
          (try dsimp only at z5_10)
          clear hb
          go_wp2
          go_ret
          exact ⟨by simp, (by (repeat (first | (with_reducible exact B5.out) | (with_reducible refine Below.setCell ?_ ?_ _) | (with_reducible refine below_alloc_top ?_ _) | (with_reducible refine Below.drew ?_))); all_goals (first | omega | (simp; done) | (simp; omega)))⟩
        · obtain ⟨q1, q2, q3⟩ := P1.out hE
          subst q2
          subst q3
          subst q1
          have n1 : (E5 == 0) = false := by simpa using hE
          have n2 : (E5 != 0) = true := by simpa using hE
          clear HRA P1 HPR HAP hE
          go_wp2
          go_ret
          exact ⟨by simp, B4.out⟩
    · have FD : Hid (decide ((d.n : Int) ≤ 18) = false) := Lib.hid (by simp; omega)
      clear h1 h2 hA hB
      go_enter Tryz.func7, Tryz.ntmps7
      go_wp2_with fail
      refine (AWK.out _ (LH.out.later (by repeat (first | exact Below.refl _ _ | refine Below.drew ?_ | refine below_drewN ?_ _ | refine Below.setCell ?_ (by first | omega | (simp; done) | (simp; omega)) _ | refine Below.alloc ?_ (by first | omega | (simp; done) | (simp; omega)) _)))).mono ?_
      rintro e w1 ⟨rfl, hb1⟩
      have qw10 : w1.cell? ⟨w.heap.size, 0, none⟩ = some (.slice A a.n c) := cell_later hb1 (by simp [go_sem])
      have qw11 : w1.cell? ⟨w.heap.size, 1, none⟩ = some (.int .i64 a.m.wd) := cell_later hb1 (by simp [go_sem])
      have qw12 : w1.cell? ⟨w.heap.size, 2, none⟩ = some (.int .i64 a.m.mt) := cell_later hb1 (by simp [go_sem])
      have qw13 : w1.cell? ⟨w.heap.size, 3, none⟩ = some (.int .i64 a.m.sk) := cell_later hb1 (by simp [go_sem])
      have qw14 : w1.cell? ⟨w.heap.size, 4, none⟩ = some (.int .i64 a.m.th) := cell_later hb1 (by simp [go_sem])
      have qw15 : w1.cell? ⟨w.heap.size, 5, none⟩ = some (.int .i64 a.ck) := cell_later hb1 (by simp [go_sem])
      have qw16 : w1.cell? ⟨w.heap.size + 1, 0, none⟩ = some (.int .i64 d.ck) := cell_later hb1 (by simp [go_sem])
      have qw17 : w1.cell? ⟨w.heap.size + 1, 1, none⟩ = some (.slice B d.n e) := cell_later hb1 (by simp [go_sem])
      have zqw1_0 := World.block_lt_of_cell? _ _ qw10
      dsimp only at zqw1_0
      have zqw1_6 := World.block_lt_of_cell? _ _ qw16
      dsimp only at zqw1_6
      have H1 : Hid (Below w.heap.size w w1) := Lib.hid (below_after (by repeat (first | exact Below.refl _ _ | refine Below.drew ?_ | refine below_drewN ?_ _ | refine Below.setCell ?_ (by first | omega | (simp; done) | (simp; omega)) _ | refine Below.alloc ?_ (by first | omega | (simp; done) | (simp; omega)) _)) hb1 (by first | omega | (simp; done) | (simp; omega))); clear hb1
      go_wp2_with (go_at_call 9; (with_reducible refine (few_any _ _).mono ?_); (first | rw [FA.out] | rw [FD.out]); rintro e w' ⟨rfl, rfl⟩)
      go_ret
      exact ⟨rfl, H1.out⟩
  · have FA : Hid (decide ((a.n : Int) ≤ 18) = false) := Lib.hid (by simp; omega)
    clear h1 hA hB
    go_enter Tryz.func7, Tryz.ntmps7
    go_wp2_with fail
    refine (AWK.out _ (LH.out.later (by repeat (first | exact Below.refl _ _ | refine Below.drew ?_ | refine below_drewN ?_ _ | refine Below.setCell ?_ (by first | omega | (simp; done) | (simp; omega)) _ | refine Below.alloc ?_ (by first | omega | (simp; done) | (simp; omega)) _)))).mono ?_
    rintro e w1 ⟨rfl, hb1⟩
    have qw10 : w1.cell? ⟨w.heap.size, 0, none⟩ = some (.slice A a.n c) := cell_later hb1 (by simp [go_sem])
    have qw11 : w1.cell? ⟨w.heap.size, 1, none⟩ = some (.int .i64 a.m.wd) := cell_later hb1 (by simp [go_sem])
    have qw12 : w1.cell? ⟨w.heap.size, 2, none⟩ = some (.int .i64 a.m.mt) := cell_later hb1 (by simp [go_sem])
    have qw13 : w1.cell? ⟨w.heap.size, 3, none⟩ = some (.int .i64 a.m.sk) := cell_later hb1 (by simp [go_sem])
    have qw14 : w1.cell? ⟨w.heap.size, 4, none⟩ = some (.int .i64 a.m.th) := cell_later hb1 (by simp [go_sem])
    have qw15 : w1.cell? ⟨w.heap.size, 5, none⟩ = some (.int .i64 a.ck) := cell_later hb1 (by simp [go_sem])
    have qw16 : w1.cell? ⟨w.heap.size + 1, 0, none⟩ = some (.int .i64 d.ck) := cell_later hb1 (by simp [go_sem])
    have qw17 : w1.cell? ⟨w.heap.size + 1, 1, none⟩ = some (.slice B d.n e) := cell_later hb1 (by simp [go_sem])
    have zqw1_0 := World.block_lt_of_cell? _ _ qw10
    dsimp only at zqw1_0
    have zqw1_6 := World.block_lt_of_cell? _ _ qw16
    dsimp only at zqw1_6
    have H1 : Hid (Below w.heap.size w w1) := Lib.hid (below_after (by repeat (first | exact Below.refl _ _ | refine Below.drew ?_ | refine below_drewN ?_ _ | refine Below.setCell ?_ (by first | omega | (simp; done) | (simp; omega)) _ | refine Below.alloc ?_ (by first | omega | (simp; done) | (simp; omega)) _)) hb1 (by first | omega | (simp; done) | (simp; omega))); clear hb1
    go_wp2_with (go_at_call 9; (with_reducible refine (few_any _ _).mono ?_); (first | rw [FA.out]); rintro e w' ⟨rfl, rfl⟩)
    go_ret
    exact ⟨rfl, H1.out⟩
end Go.Proofs.YtkkaomgdlnejcaaGreatDoor
