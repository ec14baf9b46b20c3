/- LawChecks: the walk -/
import Derived.Test.YtnhbmmpjifliaaaGreatDoorVc
import Derived.Test.YtnhbmmpjifliaaaGreatDoorYc
import Derived.Test.YtnhbmmpjifliaaaGreatDoorU2
import Derived.Test.YtnhbmmpjifliaaaGreatDoorV9
namespace Go.Proofs.YtnhbmmpjifliaaaGreatDoor
open Go.RowKit Go.Shelf RayM
set_option linter.unusedSimpArgs false
set_option linter.unusedVariables false
set_option maxRecDepth 100000 in
set_option maxHeartbeats 1000000 in
theorem few_any (n : Int) (w : World) :
    Calls Tryz.prog 25 #[.int .i64 n] w fun e w' => e = .returned (.bool (decide (n ≤ 18))) ∧ w = w' := by
  go_enter Tryz.func25, Tryz.ntmps25
  go_wp2
  go_ret
  exact ⟨rfl, rfl⟩
set_option maxRecDepth 100000 in
set_option maxHeartbeats 1000000 in
theorem checks_any (a : La) (d : Dl) (p q r : Int) (A : Option Addr) (c : Nat) (B : Option Addr) (e : Nat) (w : World) (hL : Laid w) (AWK : Hid (∀ w, Laid w → Calls Tryz.prog 11 #[] w fun e w' => e = .returned (.bool true) ∧ Below w.heap.size w w')) (hA : A = none → a.n = 0 ∧ c = 0) (hB : B = none → d.n = 0 ∧ e = 0) (h : SpAt A a.n a.p w) (g : InAt B d.n d.t w) :
    Calls Tryz.prog 8 #[.agg #[.slice A a.n c, .int .i64 a.m.wd, .int .i64 a.m.mt, .int .i64 a.m.sk, .int .i64 a.m.th, .int .i64 a.ck], .agg #[.int .i64 d.ck, .slice B d.n e], .agg #[.int .i64 p, .int .i64 q, .int .i64 r]] w fun e w' => e = .returned (.bool true) ∧ Below w.heap.size w w' := by
  have HX := Lib.hid h; clear h
  have HT := Lib.hid g; clear g
  have LH := Lib.hid hL; clear hL
  by_cases h1 : a.n ≤ 18
  · have FA : Hid (decide ((a.n : Int) ≤ 18) = true) := Lib.hid (by simp; omega)
    by_cases h2 : d.n ≤ 18
    · have FD : Hid (decide ((d.n : Int) ≤ 18) = true) := Lib.hid (by simp; omega)
      have HCA : Hid (∀ w', SpAt A a.n a.p w' → Calls Tryz.prog 27 #[.agg #[.slice A a.n c, .int .i64 a.m.wd, .int .i64 a.m.mt, .int .i64 a.m.sk, .int .i64 a.m.th, .int .i64 a.ck]] w' fun e w'' => ∃ A1 c1, e = .returned (.agg #[.slice A1 a.n c1, .int .i64 a.m.wd, .int .i64 a.m.mt, .int .i64 a.m.sk, .int .i64 a.m.th, .int .i64 a.ck]) ∧ SpAt A1 a.n a.p w'' ∧ Below w'.heap.size w' w'') := Lib.hid (fun w' h => (copyArray_any a A c w' (by omega) hA h).mono (fun e w'' ⟨v, e1, ho, hb⟩ => by
        obtain ⟨A1, c1, rfl, _, hs⟩ := own_spots ho
        exact ⟨A1, c1, e1, hs, hb⟩))
      have HCL : Hid (∀ w', InAt B d.n d.t w' → Calls Tryz.prog 28 #[.agg #[.int .i64 d.ck, .slice B d.n e]] w' fun e_ w'' => ∃ A1 c1, e_ = .returned (.agg #[.int .i64 d.ck, .slice A1 d.n c1]) ∧ InAt A1 d.n d.t w'' ∧ Below w'.heap.size w' w'') := Lib.hid (fun w' h => (copyLaw_any d B e w' (by omega) hB h).mono (fun e w'' ⟨v, e1, ho, hb⟩ => by
        obtain ⟨A1, c1, rfl, hz, hs⟩ := own_ints2 ho
        exact ⟨A1, c1, e1, hs, hb⟩))
      have HPA := Lib.hid (fun A1 c1 w h => checkArray_any a A1 c1 w h (by omega))
      have HPL := Lib.hid (fun A1 c1 w h => checkLaw_any d A1 c1 w h (by omega))
      have HRA := Lib.hid (fun w h => rCheckArray_any a A c w h (by omega))
      have HRL := Lib.hid (fun w h => rCheckLaw_any d B e w h (by omega))
      have HPT := Lib.hid (fun w => checkTurn_any p q r w)
      have HRT := Lib.hid (fun w => rTurn_any p q r w)
      generalize a.E = ea at *
      generalize (a.I : Int) = ia at *
      generalize d.E = ed at *
      generalize (d.I : Int) = id' at *
      generalize tuE p q r = et at *
      clear h1 h2 hA hB
      go_enter Tryz.func8, Tryz.ntmps8
      go_wp2_with fail
      refine (AWK.out _ (LH.out.later (by repeat (first | exact Below.refl _ _ | refine Below.drew ?_ | refine below_drewN ?_ _ | refine Below.setCell ?_ (by first | omega | (simp; done) | (simp; omega)) _ | refine Below.alloc ?_ (by first | omega | (simp; done) | (simp; omega)) _)))).mono ?_
      rintro e w1 ⟨rfl, hb1⟩
      have qw10 : w1.cell? ⟨w.heap.size, 0, none⟩ = some (.slice A a.n c) := cell_later hb1 (by simp [go_sem])
      have qw11 : w1.cell? ⟨w.heap.size, 1, none⟩ = some (.int .i64 a.m.wd) := cell_later hb1 (by simp [go_sem])
      have qw12 : w1.cell? ⟨w.heap.size, 2, none⟩ = some (.int .i64 a.m.mt) := cell_later hb1 (by simp [go_sem])
      have qw13 : w1.cell? ⟨w.heap.size, 3, none⟩ = some (.int .i64 a.m.sk) := cell_later hb1 (by simp [go_sem])
      have qw14 : w1.cell? ⟨w.heap.size, 4, none⟩ = some (.int .i64 a.m.th) := cell_later hb1 (by simp [go_sem])
      have qw15 : w1.cell? ⟨w.heap.size, 5, none⟩ = some (.int .i64 a.ck) := cell_later hb1 (by simp [go_sem])
      have qw16 : w1.cell? ⟨w.heap.size + 1, 0, none⟩ = some (.int .i64 d.ck) := cell_later hb1 (by simp [go_sem])
      have qw17 : w1.cell? ⟨w.heap.size + 1, 1, none⟩ = some (.slice B d.n e) := cell_later hb1 (by simp [go_sem])
      have qw18 : w1.cell? ⟨w.heap.size + 1 + 1, 0, none⟩ = some (.int .i64 p) := cell_later hb1 (by simp [go_sem])
      have qw19 : w1.cell? ⟨w.heap.size + 1 + 1, 1, none⟩ = some (.int .i64 q) := cell_later hb1 (by simp [go_sem])
      have qw110 : w1.cell? ⟨w.heap.size + 1 + 1, 2, none⟩ = some (.int .i64 r) := cell_later hb1 (by simp [go_sem])
      have zqw1_0 := World.block_lt_of_cell? _ _ qw10
      dsimp only at zqw1_0
      have zqw1_6 := World.block_lt_of_cell? _ _ qw16
      dsimp only at zqw1_6
      have zqw1_8 := World.block_lt_of_cell? _ _ qw18
      dsimp only at zqw1_8
      have H1 : Hid (Below w.heap.size w w1) := Lib.hid (below_after (by repeat (first | exact Below.refl _ _ | refine Below.drew ?_ | refine below_drewN ?_ _ | refine Below.setCell ?_ (by first | omega | (simp; done) | (simp; omega)) _ | refine Below.alloc ?_ (by first | omega | (simp; done) | (simp; omega)) _)) hb1 (by first | omega | (simp; done) | (simp; omega))); clear hb1
      go_wp2_with (go_at_call 25; (with_reducible refine (few_any _ _).mono ?_); (first | rw [FA.out] | rw [FD.out]); rintro e w' ⟨rfl, rfl⟩)
      refine (HCA.out _ (HX.out.later H1.out)).mono ?_
      rintro e2 w2 ⟨A2, c2, rfl, s2, hb2⟩
      have qw20 : w2.cell? ⟨w.heap.size, 0, none⟩ = some (.slice A a.n c) := cell_later hb2 (by first | assumption | simp [go_sem, *])
      have qw21 : w2.cell? ⟨w.heap.size, 1, none⟩ = some (.int .i64 a.m.wd) := cell_later hb2 (by first | assumption | simp [go_sem, *])
      have qw22 : w2.cell? ⟨w.heap.size, 2, none⟩ = some (.int .i64 a.m.mt) := cell_later hb2 (by first | assumption | simp [go_sem, *])
      have qw23 : w2.cell? ⟨w.heap.size, 3, none⟩ = some (.int .i64 a.m.sk) := cell_later hb2 (by first | assumption | simp [go_sem, *])
      have qw24 : w2.cell? ⟨w.heap.size, 4, none⟩ = some (.int .i64 a.m.th) := cell_later hb2 (by first | assumption | simp [go_sem, *])
      have qw25 : w2.cell? ⟨w.heap.size, 5, none⟩ = some (.int .i64 a.ck) := cell_later hb2 (by first | assumption | simp [go_sem, *])
      have qw26 : w2.cell? ⟨w.heap.size + 1, 0, none⟩ = some (.int .i64 d.ck) := cell_later hb2 (by first | assumption | simp [go_sem, *])
      have qw27 : w2.cell? ⟨w.heap.size + 1, 1, none⟩ = some (.slice B d.n e) := cell_later hb2 (by first | assumption | simp [go_sem, *])
      have qw28 : w2.cell? ⟨w.heap.size + 1 + 1, 0, none⟩ = some (.int .i64 p) := cell_later hb2 (by first | assumption | simp [go_sem, *])
      have qw29 : w2.cell? ⟨w.heap.size + 1 + 1, 1, none⟩ = some (.int .i64 q) := cell_later hb2 (by first | assumption | simp [go_sem, *])
      have qw210 : w2.cell? ⟨w.heap.size + 1 + 1, 2, none⟩ = some (.int .i64 r) := cell_later hb2 (by first | assumption | simp [go_sem, *])
      have zqw2_0 := World.block_lt_of_cell? _ _ qw20
      dsimp only at zqw2_0
      have zqw2_6 := World.block_lt_of_cell? _ _ qw26
      dsimp only at zqw2_6
      have zqw2_8 := World.block_lt_of_cell? _ _ qw28
      dsimp only at zqw2_8
      have H2 : Hid (Below w.heap.size w w2) := Lib.hid (below_then H1.out hb2); clear hb2
      go_wp2_with fail
      refine (HPA.out _ _ _ s2).mono ?_
      rintro e3 w3 ⟨rfl, hb3⟩
      clear s2
      have qw30 : w3.cell? ⟨w.heap.size, 0, none⟩ = some (.slice A a.n c) := cell_later hb3 (by first | assumption | simp [go_sem, *])
      have qw31 : w3.cell? ⟨w.heap.size, 1, none⟩ = some (.int .i64 a.m.wd) := cell_later hb3 (by first | assumption | simp [go_sem, *])
      have qw32 : w3.cell? ⟨w.heap.size, 2, none⟩ = some (.int .i64 a.m.mt) := cell_later hb3 (by first | assumption | simp [go_sem, *])
      have qw33 : w3.cell? ⟨w.heap.size, 3, none⟩ = some (.int .i64 a.m.sk) := cell_later hb3 (by first | assumption | simp [go_sem, *])
      have qw34 : w3.cell? ⟨w.heap.size, 4, none⟩ = some (.int .i64 a.m.th) := cell_later hb3 (by first | assumption | simp [go_sem, *])
      have qw35 : w3.cell? ⟨w.heap.size, 5, none⟩ = some (.int .i64 a.ck) := cell_later hb3 (by first | assumption | simp [go_sem, *])
      have qw36 : w3.cell? ⟨w.heap.size + 1, 0, none⟩ = some (.int .i64 d.ck) := cell_later hb3 (by first | assumption | simp [go_sem, *])
      have qw37 : w3.cell? ⟨w.heap.size + 1, 1, none⟩ = some (.slice B d.n e) := cell_later hb3 (by first | assumption | simp [go_sem, *])
      have qw38 : w3.cell? ⟨w.heap.size + 1 + 1, 0, none⟩ = some (.int .i64 p) := cell_later hb3 (by first | assumption | simp [go_sem, *])
      have qw39 : w3.cell? ⟨w.heap.size + 1 + 1, 1, none⟩ = some (.int .i64 q) := cell_later hb3 (by first | assumption | simp [go_sem, *])
      have qw310 : w3.cell? ⟨w.heap.size + 1 + 1, 2, none⟩ = some (.int .i64 r) := cell_later hb3 (by first | assumption | simp [go_sem, *])
      have zqw3_0 := World.block_lt_of_cell? _ _ qw30
      dsimp only at zqw3_0
      have zqw3_6 := World.block_lt_of_cell? _ _ qw36
      dsimp only at zqw3_6
      have zqw3_8 := World.block_lt_of_cell? _ _ qw38
      dsimp only at zqw3_8
      have H3 : Hid (Below w.heap.size w w3) := Lib.hid (below_then H2.out hb3); clear hb3
      go_wp2_with fail
      refine (HCL.out _ (HT.out.later H3.out)).mono ?_
      rintro e4 w4 ⟨A4, c4, rfl, s4, hb4⟩
      have qw40 : w4.cell? ⟨w.heap.size, 0, none⟩ = some (.slice A a.n c) := cell_later hb4 (by first | assumption | simp [go_sem, *])
      have qw41 : w4.cell? ⟨w.heap.size, 1, none⟩ = some (.int .i64 a.m.wd) := cell_later hb4 (by first | assumption | simp [go_sem, *])
      have qw42 : w4.cell? ⟨w.heap.size, 2, none⟩ = some (.int .i64 a.m.mt) := cell_later hb4 (by first | assumption | simp [go_sem, *])
      have qw43 : w4.cell? ⟨w.heap.size, 3, none⟩ = some (.int .i64 a.m.sk) := cell_later hb4 (by first | assumption | simp [go_sem, *])
      have qw44 : w4.cell? ⟨w.heap.size, 4, none⟩ = some (.int .i64 a.m.th) := cell_later hb4 (by first | assumption | simp [go_sem, *])
      have qw45 : w4.cell? ⟨w.heap.size, 5, none⟩ = some (.int .i64 a.ck) := cell_later hb4 (by first | assumption | simp [go_sem, *])
      have qw46 : w4.cell? ⟨w.heap.size + 1, 0, none⟩ = some (.int .i64 d.ck) := cell_later hb4 (by first | assumption | simp [go_sem, *])
      have qw47 : w4.cell? ⟨w.heap.size + 1, 1, none⟩ = some (.slice B d.n e) := cell_later hb4 (by first | assumption | simp [go_sem, *])
      have qw48 : w4.cell? ⟨w.heap.size + 1 + 1, 0, none⟩ = some (.int .i64 p) := cell_later hb4 (by first | assumption | simp [go_sem, *])
      have qw49 : w4.cell? ⟨w.heap.size + 1 + 1, 1, none⟩ = some (.int .i64 q) := cell_later hb4 (by first | assumption | simp [go_sem, *])
      have qw410 : w4.cell? ⟨w.heap.size + 1 + 1, 2, none⟩ = some (.int .i64 r) := cell_later hb4 (by first | assumption | simp [go_sem, *])
      have zqw4_0 := World.block_lt_of_cell? _ _ qw40
      dsimp only at zqw4_0
      have zqw4_6 := World.block_lt_of_cell? _ _ qw46
      dsimp only at zqw4_6
      have zqw4_8 := World.block_lt_of_cell? _ _ qw48
      dsimp only at zqw4_8
      have H4 : Hid (Below w.heap.size w w4) := Lib.hid (below_then H3.out hb4); clear hb4
      go_wp2_with fail
      refine (HPL.out _ _ _ s4).mono ?_
      rintro e5 w5 ⟨rfl, hb5⟩
      clear s4
      have qw50 : w5.cell? ⟨w.heap.size, 0, none⟩ = some (.slice A a.n c) := cell_later hb5 (by first | assumption | simp [go_sem, *])
      have qw51 : w5.cell? ⟨w.heap.size, 1, none⟩ = some (.int .i64 a.m.wd) := cell_later hb5 (by first | assumption | simp [go_sem, *])
      have qw52 : w5.cell? ⟨w.heap.size, 2, none⟩ = some (.int .i64 a.m.mt) := cell_later hb5 (by first | assumption | simp [go_sem, *])
      have qw53 : w5.cell? ⟨w.heap.size, 3, none⟩ = some (.int .i64 a.m.sk) := cell_later hb5 (by first | assumption | simp [go_sem, *])
      have qw54 : w5.cell? ⟨w.heap.size, 4, none⟩ = some (.int .i64 a.m.th) := cell_later hb5 (by first | assumption | simp [go_sem, *])
      have qw55 : w5.cell? ⟨w.heap.size, 5, none⟩ = some (.int .i64 a.ck) := cell_later hb5 (by first | assumption | simp [go_sem, *])
      have qw56 : w5.cell? ⟨w.heap.size + 1, 0, none⟩ = some (.int .i64 d.ck) := cell_later hb5 (by first | assumption | simp [go_sem, *])
      have qw57 : w5.cell? ⟨w.heap.size + 1, 1, none⟩ = some (.slice B d.n e) := cell_later hb5 (by first | assumption | simp [go_sem, *])
      have qw58 : w5.cell? ⟨w.heap.size + 1 + 1, 0, none⟩ = some (.int .i64 p) := cell_later hb5 (by first | assumption | simp [go_sem, *])
      have qw59 : w5.cell? ⟨w.heap.size + 1 + 1, 1, none⟩ = some (.int .i64 q) := cell_later hb5 (by first | assumption | simp [go_sem, *])
      have qw510 : w5.cell? ⟨w.heap.size + 1 + 1, 2, none⟩ = some (.int .i64 r) := cell_later hb5 (by first | assumption | simp [go_sem, *])
      have zqw5_0 := World.block_lt_of_cell? _ _ qw50
      dsimp only at zqw5_0
      have zqw5_6 := World.block_lt_of_cell? _ _ qw56
      dsimp only at zqw5_6
      have zqw5_8 := World.block_lt_of_cell? _ _ qw58
      dsimp only at zqw5_8
      have H5 : Hid (Below w.heap.size w w5) := Lib.hid (below_then H4.out hb5); clear hb5
      go_wp2_with fail
      refine (HRA.out _ (HX.out.later H5.out)).mono ?_
      rintro e6 w6 ⟨rfl, hb6⟩
      have qw60 : w6.cell? ⟨w.heap.size, 0, none⟩ = some (.slice A a.n c) := cell_later hb6 (by first | assumption | simp [go_sem, *])
      have qw61 : w6.cell? ⟨w.heap.size, 1, none⟩ = some (.int .i64 a.m.wd) := cell_later hb6 (by first | assumption | simp [go_sem, *])
      have qw62 : w6.cell? ⟨w.heap.size, 2, none⟩ = some (.int .i64 a.m.mt) := cell_later hb6 (by first | assumption | simp [go_sem, *])
      have qw63 : w6.cell? ⟨w.heap.size, 3, none⟩ = some (.int .i64 a.m.sk) := cell_later hb6 (by first | assumption | simp [go_sem, *])
      have qw64 : w6.cell? ⟨w.heap.size, 4, none⟩ = some (.int .i64 a.m.th) := cell_later hb6 (by first | assumption | simp [go_sem, *])
      have qw65 : w6.cell? ⟨w.heap.size, 5, none⟩ = some (.int .i64 a.ck) := cell_later hb6 (by first | assumption | simp [go_sem, *])
      have qw66 : w6.cell? ⟨w.heap.size + 1, 0, none⟩ = some (.int .i64 d.ck) := cell_later hb6 (by first | assumption | simp [go_sem, *])
      have qw67 : w6.cell? ⟨w.heap.size + 1, 1, none⟩ = some (.slice B d.n e) := cell_later hb6 (by first | assumption | simp [go_sem, *])
      have qw68 : w6.cell? ⟨w.heap.size + 1 + 1, 0, none⟩ = some (.int .i64 p) := cell_later hb6 (by first | assumption | simp [go_sem, *])
      have qw69 : w6.cell? ⟨w.heap.size + 1 + 1, 1, none⟩ = some (.int .i64 q) := cell_later hb6 (by first | assumption | simp [go_sem, *])
      have qw610 : w6.cell? ⟨w.heap.size + 1 + 1, 2, none⟩ = some (.int .i64 r) := cell_later hb6 (by first | assumption | simp [go_sem, *])
      have zqw6_0 := World.block_lt_of_cell? _ _ qw60
      dsimp only at zqw6_0
      have zqw6_6 := World.block_lt_of_cell? _ _ qw66
      dsimp only at zqw6_6
      have zqw6_8 := World.block_lt_of_cell? _ _ qw68
      dsimp only at zqw6_8
      have H6 : Hid (Below w.heap.size w w6) := Lib.hid (below_then H5.out hb6); clear hb6
      go_wp2_with fail
      refine (HRL.out _ (HT.out.later H6.out)).mono ?_
      rintro e7 w7 ⟨rfl, hb7⟩
      have qw70 : w7.cell? ⟨w.heap.size, 0, none⟩ = some (.slice A a.n c) := cell_later hb7 (by first | assumption | simp [go_sem, *])
      have qw71 : w7.cell? ⟨w.heap.size, 1, none⟩ = some (.int .i64 a.m.wd) := cell_later hb7 (by first | assumption | simp [go_sem, *])
      have qw72 : w7.cell? ⟨w.heap.size, 2, none⟩ = some (.int .i64 a.m.mt) := cell_later hb7 (by first | assumption | simp [go_sem, *])
      have qw73 : w7.cell? ⟨w.heap.size, 3, none⟩ = some (.int .i64 a.m.sk) := cell_later hb7 (by first | assumption | simp [go_sem, *])
      have qw74 : w7.cell? ⟨w.heap.size, 4, none⟩ = some (.int .i64 a.m.th) := cell_later hb7 (by first | assumption | simp [go_sem, *])
      have qw75 : w7.cell? ⟨w.heap.size, 5, none⟩ = some (.int .i64 a.ck) := cell_later hb7 (by first | assumption | simp [go_sem, *])
      have qw76 : w7.cell? ⟨w.heap.size + 1, 0, none⟩ = some (.int .i64 d.ck) := cell_later hb7 (by first | assumption | simp [go_sem, *])
      have qw77 : w7.cell? ⟨w.heap.size + 1, 1, none⟩ = some (.slice B d.n e) := cell_later hb7 (by first | assumption | simp [go_sem, *])
      have qw78 : w7.cell? ⟨w.heap.size + 1 + 1, 0, none⟩ = some (.int .i64 p) := cell_later hb7 (by first | assumption | simp [go_sem, *])
      have qw79 : w7.cell? ⟨w.heap.size + 1 + 1, 1, none⟩ = some (.int .i64 q) := cell_later hb7 (by first | assumption | simp [go_sem, *])
      have qw710 : w7.cell? ⟨w.heap.size + 1 + 1, 2, none⟩ = some (.int .i64 r) := cell_later hb7 (by first | assumption | simp [go_sem, *])
      have zqw7_0 := World.block_lt_of_cell? _ _ qw70
      dsimp only at zqw7_0
      have zqw7_6 := World.block_lt_of_cell? _ _ qw76
      dsimp only at zqw7_6
      have zqw7_8 := World.block_lt_of_cell? _ _ qw78
      dsimp only at zqw7_8
      have H7 : Hid (Below w.heap.size w w7) := Lib.hid (below_then H6.out hb7); clear hb7
      clear qw10 qw11 qw12 qw13 qw14 qw15 qw16 qw17 qw18 qw19 qw110 qw20 qw21 qw22 qw23 qw24 qw25 qw26 qw27 qw28 qw29 qw210 qw30 qw31 qw32 qw33 qw34 qw35 qw36 qw37 qw38 qw39 qw310 qw40 qw41 qw42 qw43 qw44 qw45 qw46 qw47 qw48 qw49 qw410 qw50 qw51 qw52 qw53 qw54 qw55 qw56 qw57 qw58 qw59 qw510 qw60 qw61 qw62 qw63 qw64 qw65 qw66 qw67 qw68 qw69 qw610
      have k0 := qw78; have k1 := qw79; have k2 := qw710
      clear qw70 qw71 qw72 qw73 qw74 qw75 qw76 qw77 qw78 qw79 qw710
      go_wp2_with fail
      have hS : Below w.heap.size w w7 := H7.out
      go_region_held3 (fun w' => w'.cell? ⟨w.heap.size + 1 + 1, 0, none⟩ = some (.int .i64 p) ∧ w'.cell? ⟨w.heap.size + 1 + 1, 1, none⟩ = some (.int .i64 q) ∧ w'.cell? ⟨w.heap.size + 1 + 1, 2, none⟩ = some (.int .i64 r) ∧ Below w.heap.size w w') (((go_split_ands; (repeat' apply And.intro) <;> first | (with_reducible assumption) | exact cell_later (by assumption) (by assumption) | exact frozen_after (by assumption) (by assumption) (by assumption) | exact below_then (by assumption) (by assumption) | exact below_alloc_top (by assumption) _ | exact cell_alloc_later (by assumption) _ | exact frozen_alloc_later (by assumption) (by assumption) _ | exact Below.drew (by assumption) | (simp [go_sem, World.cell?_alloc_past, *]; done))))
        (first
          | (go_split_ands; go_at_call 43; (with_reducible refine (HPT.out _).mono ?_); rintro e w' ⟨rfl, hb⟩)
          | (go_split_ands; go_at_call 21; (with_reducible refine (HRT.out _).mono ?_); rintro e w' ⟨rfl, hb⟩))
      all_goals (go_split_ands; go_wp2; go_ret; exact ⟨by simp, (by repeat (first | (with_reducible assumption) | refine Below.drew ?_))⟩)
    · have FD : Hid (decide ((d.n : Int) ≤ 18) = false) := Lib.hid (by simp; omega)
      clear h1 h2 hA hB
      go_enter Tryz.func8, Tryz.ntmps8
      go_wp2_with fail
      refine (AWK.out _ (LH.out.later (by repeat (first | exact Below.refl _ _ | refine Below.drew ?_ | refine below_drewN ?_ _ | refine Below.setCell ?_ (by first | omega | (simp; done) | (simp; omega)) _ | refine Below.alloc ?_ (by first | omega | (simp; done) | (simp; omega)) _)))).mono ?_
      rintro e w1 ⟨rfl, hb1⟩
      have qw10 : w1.cell? ⟨w.heap.size, 0, none⟩ = some (.slice A a.n c) := cell_later hb1 (by simp [go_sem])
      have qw11 : w1.cell? ⟨w.heap.size, 1, none⟩ = some (.int .i64 a.m.wd) := cell_later hb1 (by simp [go_sem])
      have qw12 : w1.cell? ⟨w.heap.size, 2, none⟩ = some (.int .i64 a.m.mt) := cell_later hb1 (by simp [go_sem])
      have qw13 : w1.cell? ⟨w.heap.size, 3, none⟩ = some (.int .i64 a.m.sk) := cell_later hb1 (by simp [go_sem])
      have qw14 : w1.cell? ⟨w.heap.size, 4, none⟩ = some (.int .i64 a.m.th) := cell_later hb1 (by simp [go_sem])
      have qw15 : w1.cell? ⟨w.heap.size, 5, none⟩ = some (.int .i64 a.ck) := cell_later hb1 (by simp [go_sem])
      have qw16 : w1.cell? ⟨w.heap.size + 1, 0, none⟩ = some (.int .i64 d.ck) := cell_later hb1 (by simp [go_sem])
      have qw17 : w1.cell? ⟨w.heap.size + 1, 1, none⟩ = some (.slice B d.n e) := cell_later hb1 (by simp [go_sem])
      have qw18 : w1.cell? ⟨w.heap.size + 1 + 1, 0, none⟩ = some (.int .i64 p) := cell_later hb1 (by simp [go_sem])
      have qw19 : w1.cell? ⟨w.heap.size + 1 + 1, 1, none⟩ = some (.int .i64 q) := cell_later hb1 (by simp [go_sem])
      have qw110 : w1.cell? ⟨w.heap.size + 1 + 1, 2, none⟩ = some (.int .i64 r) := cell_later hb1 (by simp [go_sem])
      have zqw1_0 := World.block_lt_of_cell? _ _ qw10
      dsimp only at zqw1_0
      have zqw1_6 := World.block_lt_of_cell? _ _ qw16
      dsimp only at zqw1_6
      have zqw1_8 := World.block_lt_of_cell? _ _ qw18
      dsimp only at zqw1_8
      have H1 : Hid (Below w.heap.size w w1) := Lib.hid (below_after (by repeat (first | exact Below.refl _ _ | refine Below.drew ?_ | refine below_drewN ?_ _ | refine Below.setCell ?_ (by first | omega | (simp; done) | (simp; omega)) _ | refine Below.alloc ?_ (by first | omega | (simp; done) | (simp; omega)) _)) hb1 (by first | omega | (simp; done) | (simp; omega))); clear hb1
      go_wp2_with (go_at_call 25; (with_reducible refine (few_any _ _).mono ?_); (first | rw [FA.out] | rw [FD.out]); rintro e w' ⟨rfl, rfl⟩)
      go_ret
      exact ⟨rfl, H1.out⟩
  · have FA : Hid (decide ((a.n : Int) ≤ 18) = false) := Lib.hid (by simp; omega)
    clear h1 hA hB
    go_enter Tryz.func8, Tryz.ntmps8
    go_wp2_with fail
    refine (AWK.out _ (LH.out.later (by repeat (first | exact Below.refl _ _ | refine Below.drew ?_ | refine below_drewN ?_ _ | refine Below.setCell ?_ (by first | omega | (simp; done) | (simp; omega)) _ | refine Below.alloc ?_ (by first | omega | (simp; done) | (simp; omega)) _)))).mono ?_
    rintro e w1 ⟨rfl, hb1⟩
    have qw10 : w1.cell? ⟨w.heap.size, 0, none⟩ = some (.slice A a.n c) := cell_later hb1 (by simp [go_sem])
    have qw11 : w1.cell? ⟨w.heap.size, 1, none⟩ = some (.int .i64 a.m.wd) := cell_later hb1 (by simp [go_sem])
    have qw12 : w1.cell? ⟨w.heap.size, 2, none⟩ = some (.int .i64 a.m.mt) := cell_later hb1 (by simp [go_sem])
    have qw13 : w1.cell? ⟨w.heap.size, 3, none⟩ = some (.int .i64 a.m.sk) := cell_later hb1 (by simp [go_sem])
    have qw14 : w1.cell? ⟨w.heap.size, 4, none⟩ = some (.int .i64 a.m.th) := cell_later hb1 (by simp [go_sem])
    have qw15 : w1.cell? ⟨w.heap.size, 5, none⟩ = some (.int .i64 a.ck) := cell_later hb1 (by simp [go_sem])
    have qw16 : w1.cell? ⟨w.heap.size + 1, 0, none⟩ = some (.int .i64 d.ck) := cell_later hb1 (by simp [go_sem])
    have qw17 : w1.cell? ⟨w.heap.size + 1, 1, none⟩ = some (.slice B d.n e) := cell_later hb1 (by simp [go_sem])
    have qw18 : w1.cell? ⟨w.heap.size + 1 + 1, 0, none⟩ = some (.int .i64 p) := cell_later hb1 (by simp [go_sem])
    have qw19 : w1.cell? ⟨w.heap.size + 1 + 1, 1, none⟩ = some (.int .i64 q) := cell_later hb1 (by simp [go_sem])
    have qw110 : w1.cell? ⟨w.heap.size + 1 + 1, 2, none⟩ = some (.int .i64 r) := cell_later hb1 (by simp [go_sem])
    have zqw1_0 := World.block_lt_of_cell? _ _ qw10
    dsimp only at zqw1_0
    have zqw1_6 := World.block_lt_of_cell? _ _ qw16
    dsimp only at zqw1_6
    have zqw1_8 := World.block_lt_of_cell? _ _ qw18
    dsimp only at zqw1_8
    have H1 : Hid (Below w.heap.size w w1) := Lib.hid (below_after (by repeat (first | exact Below.refl _ _ | refine Below.drew ?_ | refine below_drewN ?_ _ | refine Below.setCell ?_ (by first | omega | (simp; done) | (simp; omega)) _ | refine Below.alloc ?_ (by first | omega | (simp; done) | (simp; omega)) _)) hb1 (by first | omega | (simp; done) | (simp; omega))); clear hb1
    go_wp2_with (go_at_call 25; (with_reducible refine (few_any _ _).mono ?_); (first | rw [FA.out]); rintro e w' ⟨rfl, rfl⟩)
    go_ret
    exact ⟨rfl, H1.out⟩
end Go.Proofs.YtnhbmmpjifliaaaGreatDoor
