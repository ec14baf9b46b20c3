/- TopFewerNearer: all lengths -/
import Derived.Test.YtdicndakelgoeaaT3r
namespace Go.Proofs.Ytdicndakelgoeaa
open Go.RowKit Go.Shelf RayM
set_option linter.unusedSimpArgs false
set_option linter.unusedVariables false
set_option maxRecDepth 100000 in
set_option maxHeartbeats 1000000 in
theorem tfn_bigA (a : La) (d : Dl) (dd : Nat → Int) (nd : Nat) (sp kh : Int) (A : Option Addr) (c : Nat) (B : Option Addr) (e : Nat) (C : Option Addr) (g0 : Nat) (w : World) (h1 : 18 < a.n) (h2 : a.n ≤ 9223372036854775807) :
    Calls Try.prog 21 #[.agg #[.slice A a.n c, .int .i64 a.m.wd, .int .i64 a.m.mt, .int .i64 a.m.sk, .int .i64 a.m.th, .int .i64 a.ck], .agg #[.int .i64 d.ck, .slice B d.n e], .agg #[.slice C nd g0, .int .i64 sp, .int .i64 kh]] w fun e w' => e = .returned (.bool true) ∧ Below w.heap.size w w' := by
  have d_an : decide ((18 : Int) < (a.n : Int)) = true := by simp; omega
  go_enter Try.func21, Try.ntmps21
  go_wp2_with fail
  refine (lawed_any _).mono ?_
  rintro e w1 ⟨rfl, hb1⟩
  have qw10 : w1.cell? ⟨w.heap.size, 0, none⟩ = some (.slice A a.n c) := cell_later hb1 (by simp [go_sem])
  have qw11 : w1.cell? ⟨w.heap.size, 1, none⟩ = some (.int .i64 a.m.wd) := cell_later hb1 (by simp [go_sem])
  have qw12 : w1.cell? ⟨w.heap.size, 2, none⟩ = some (.int .i64 a.m.mt) := cell_later hb1 (by simp [go_sem])
  have qw13 : w1.cell? ⟨w.heap.size, 3, none⟩ = some (.int .i64 a.m.sk) := cell_later hb1 (by simp [go_sem])
  have qw14 : w1.cell? ⟨w.heap.size, 4, none⟩ = some (.int .i64 a.m.th) := cell_later hb1 (by simp [go_sem])
  have qw15 : w1.cell? ⟨w.heap.size, 5, none⟩ = some (.int .i64 a.ck) := cell_later hb1 (by simp [go_sem])
  have qw16 : w1.cell? ⟨w.heap.size + 1, 0, none⟩ = some (.int .i64 d.ck) := cell_later hb1 (by simp [go_sem])
  have qw17 : w1.cell? ⟨w.heap.size + 1, 1, none⟩ = some (.slice B d.n e) := cell_later hb1 (by simp [go_sem])
  have qw18 : w1.cell? ⟨w.heap.size + 1 + 1, 0, none⟩ = some (.slice C nd g0) := cell_later hb1 (by simp [go_sem])
  have qw19 : w1.cell? ⟨w.heap.size + 1 + 1, 1, none⟩ = some (.int .i64 sp) := cell_later hb1 (by simp [go_sem])
  have qw110 : w1.cell? ⟨w.heap.size + 1 + 1, 2, none⟩ = some (.int .i64 kh) := cell_later hb1 (by simp [go_sem])
  have zqw1_0 := World.block_lt_of_cell? _ _ qw10
  dsimp only at zqw1_0
  have zqw1_6 := World.block_lt_of_cell? _ _ qw16
  dsimp only at zqw1_6
  have zqw1_8 := World.block_lt_of_cell? _ _ qw18
  dsimp only at zqw1_8
  have H1 : Hid (Below w.heap.size w w1) := Lib.hid (below_after (by repeat (first | exact Below.refl _ _ | refine Below.drew ?_ | refine below_drewN ?_ _ | refine Below.setCell ?_ (by first | omega | (simp; done) | (simp; omega)) _ | refine Below.alloc ?_ (by first | omega | (simp; done) | (simp; omega)) _)) hb1 (by first | omega | (simp; done) | (simp; omega))); clear hb1
  go_wp2
  go_ret
  exact ⟨rfl, (by (repeat (first | (with_reducible exact H1.out) | (with_reducible refine Below.setCell ?_ ?_ _) | (with_reducible refine below_alloc_top ?_ _) | (with_reducible refine Below.drew ?_))); all_goals (first | omega | (simp; done) | (simp; omega)))⟩
set_option maxRecDepth 100000 in
set_option maxHeartbeats 1000000 in
theorem tfn_bigB (a : La) (d : Dl) (dd : Nat → Int) (nd : Nat) (sp kh : Int) (A : Option Addr) (c : Nat) (B : Option Addr) (e : Nat) (C : Option Addr) (g0 : Nat) (w : World) (h1 : a.n ≤ 18) (h2 : 18 < d.n) (h3 : d.n ≤ 9223372036854775807) :
    Calls Try.prog 21 #[.agg #[.slice A a.n c, .int .i64 a.m.wd, .int .i64 a.m.mt, .int .i64 a.m.sk, .int .i64 a.m.th, .int .i64 a.ck], .agg #[.int .i64 d.ck, .slice B d.n e], .agg #[.slice C nd g0, .int .i64 sp, .int .i64 kh]] w fun e w' => e = .returned (.bool true) ∧ Below w.heap.size w w' := by
  have d_an : decide ((18 : Int) < (a.n : Int)) = false := by simp; omega
  have d_dn : decide ((18 : Int) < (d.n : Int)) = true := by simp; omega
  go_enter Try.func21, Try.ntmps21
  go_wp2_with fail
  refine (lawed_any _).mono ?_
  rintro e w1 ⟨rfl, hb1⟩
  have qw10 : w1.cell? ⟨w.heap.size, 0, none⟩ = some (.slice A a.n c) := cell_later hb1 (by simp [go_sem])
  have qw11 : w1.cell? ⟨w.heap.size, 1, none⟩ = some (.int .i64 a.m.wd) := cell_later hb1 (by simp [go_sem])
  have qw12 : w1.cell? ⟨w.heap.size, 2, none⟩ = some (.int .i64 a.m.mt) := cell_later hb1 (by simp [go_sem])
  have qw13 : w1.cell? ⟨w.heap.size, 3, none⟩ = some (.int .i64 a.m.sk) := cell_later hb1 (by simp [go_sem])
  have qw14 : w1.cell? ⟨w.heap.size, 4, none⟩ = some (.int .i64 a.m.th) := cell_later hb1 (by simp [go_sem])
  have qw15 : w1.cell? ⟨w.heap.size, 5, none⟩ = some (.int .i64 a.ck) := cell_later hb1 (by simp [go_sem])
  have qw16 : w1.cell? ⟨w.heap.size + 1, 0, none⟩ = some (.int .i64 d.ck) := cell_later hb1 (by simp [go_sem])
  have qw17 : w1.cell? ⟨w.heap.size + 1, 1, none⟩ = some (.slice B d.n e) := cell_later hb1 (by simp [go_sem])
  have qw18 : w1.cell? ⟨w.heap.size + 1 + 1, 0, none⟩ = some (.slice C nd g0) := cell_later hb1 (by simp [go_sem])
  have qw19 : w1.cell? ⟨w.heap.size + 1 + 1, 1, none⟩ = some (.int .i64 sp) := cell_later hb1 (by simp [go_sem])
  have qw110 : w1.cell? ⟨w.heap.size + 1 + 1, 2, none⟩ = some (.int .i64 kh) := cell_later hb1 (by simp [go_sem])
  have zqw1_0 := World.block_lt_of_cell? _ _ qw10
  dsimp only at zqw1_0
  have zqw1_6 := World.block_lt_of_cell? _ _ qw16
  dsimp only at zqw1_6
  have zqw1_8 := World.block_lt_of_cell? _ _ qw18
  dsimp only at zqw1_8
  have H1 : Hid (Below w.heap.size w w1) := Lib.hid (below_after (by repeat (first | exact Below.refl _ _ | refine Below.drew ?_ | refine below_drewN ?_ _ | refine Below.setCell ?_ (by first | omega | (simp; done) | (simp; omega)) _ | refine Below.alloc ?_ (by first | omega | (simp; done) | (simp; omega)) _)) hb1 (by first | omega | (simp; done) | (simp; omega))); clear hb1
  go_wp2
  go_ret
  exact ⟨rfl, (by (repeat (first | (with_reducible exact H1.out) | (with_reducible refine Below.setCell ?_ ?_ _) | (with_reducible refine below_alloc_top ?_ _) | (with_reducible refine Below.drew ?_))); all_goals (first | omega | (simp; done) | (simp; omega)))⟩
set_option maxRecDepth 100000 in
set_option maxHeartbeats 1000000 in
theorem tfn_bigC (a : La) (d : Dl) (dd : Nat → Int) (nd : Nat) (sp kh : Int) (A : Option Addr) (c : Nat) (B : Option Addr) (e : Nat) (C : Option Addr) (g0 : Nat) (w : World) (h1 : a.n ≤ 18) (h2 : d.n ≤ 18) (h4 : 16 < nd) (h3 : nd ≤ 9223372036854775807) :
    Calls Try.prog 21 #[.agg #[.slice A a.n c, .int .i64 a.m.wd, .int .i64 a.m.mt, .int .i64 a.m.sk, .int .i64 a.m.th, .int .i64 a.ck], .agg #[.int .i64 d.ck, .slice B d.n e], .agg #[.slice C nd g0, .int .i64 sp, .int .i64 kh]] w fun e w' => e = .returned (.bool true) ∧ Below w.heap.size w w' := by
  have d_an : decide ((18 : Int) < (a.n : Int)) = false := by simp; omega
  have d_dn : decide ((18 : Int) < (d.n : Int)) = false := by simp; omega
  have d_nd : decide ((16 : Int) < (nd : Int)) = true := by simp; omega
  go_enter Try.func21, Try.ntmps21
  go_wp2_with fail
  refine (lawed_any _).mono ?_
  rintro e w1 ⟨rfl, hb1⟩
  have qw10 : w1.cell? ⟨w.heap.size, 0, none⟩ = some (.slice A a.n c) := cell_later hb1 (by simp [go_sem])
  have qw11 : w1.cell? ⟨w.heap.size, 1, none⟩ = some (.int .i64 a.m.wd) := cell_later hb1 (by simp [go_sem])
  have qw12 : w1.cell? ⟨w.heap.size, 2, none⟩ = some (.int .i64 a.m.mt) := cell_later hb1 (by simp [go_sem])
  have qw13 : w1.cell? ⟨w.heap.size, 3, none⟩ = some (.int .i64 a.m.sk) := cell_later hb1 (by simp [go_sem])
  have qw14 : w1.cell? ⟨w.heap.size, 4, none⟩ = some (.int .i64 a.m.th) := cell_later hb1 (by simp [go_sem])
  have qw15 : w1.cell? ⟨w.heap.size, 5, none⟩ = some (.int .i64 a.ck) := cell_later hb1 (by simp [go_sem])
  have qw16 : w1.cell? ⟨w.heap.size + 1, 0, none⟩ = some (.int .i64 d.ck) := cell_later hb1 (by simp [go_sem])
  have qw17 : w1.cell? ⟨w.heap.size + 1, 1, none⟩ = some (.slice B d.n e) := cell_later hb1 (by simp [go_sem])
  have qw18 : w1.cell? ⟨w.heap.size + 1 + 1, 0, none⟩ = some (.slice C nd g0) := cell_later hb1 (by simp [go_sem])
  have qw19 : w1.cell? ⟨w.heap.size + 1 + 1, 1, none⟩ = some (.int .i64 sp) := cell_later hb1 (by simp [go_sem])
  have qw110 : w1.cell? ⟨w.heap.size + 1 + 1, 2, none⟩ = some (.int .i64 kh) := cell_later hb1 (by simp [go_sem])
  have zqw1_0 := World.block_lt_of_cell? _ _ qw10
  dsimp only at zqw1_0
  have zqw1_6 := World.block_lt_of_cell? _ _ qw16
  dsimp only at zqw1_6
  have zqw1_8 := World.block_lt_of_cell? _ _ qw18
  dsimp only at zqw1_8
  have H1 : Hid (Below w.heap.size w w1) := Lib.hid (below_after (by repeat (first | exact Below.refl _ _ | refine Below.drew ?_ | refine below_drewN ?_ _ | refine Below.setCell ?_ (by first | omega | (simp; done) | (simp; omega)) _ | refine Below.alloc ?_ (by first | omega | (simp; done) | (simp; omega)) _)) hb1 (by first | omega | (simp; done) | (simp; omega))); clear hb1
  go_wp2
  go_ret
  exact ⟨rfl, (by (repeat (first | (with_reducible exact H1.out) | (with_reducible refine Below.setCell ?_ ?_ _) | (with_reducible refine below_alloc_top ?_ _) | (with_reducible refine Below.drew ?_))); all_goals (first | omega | (simp; done) | (simp; omega)))⟩
theorem tfn_all (a : La) (d : Dl) (dd : Nat → Int) (nd : Nat) (sp kh : Int) (A : Option Addr) (c : Nat) (B : Option Addr) (e : Nat) (C : Option Addr) (g0 : Nat) (w : World) (hA : A = none → a.n = 0 ∧ c = 0) (hB : B = none → d.n = 0 ∧ e = 0) (hC : C = none → nd = 0 ∧ g0 = 0) (h : SpAt A a.n a.p w) (g : InAt B d.n d.t w) (k : InAt C nd dd w) (hn : a.n ≤ maxLen) (hd : d.n ≤ maxLen) (hc : nd ≤ maxLen) :
    Calls Try.prog 21 #[.agg #[.slice A a.n c, .int .i64 a.m.wd, .int .i64 a.m.mt, .int .i64 a.m.sk, .int .i64 a.m.th, .int .i64 a.ck], .agg #[.int .i64 d.ck, .slice B d.n e], .agg #[.slice C nd g0, .int .i64 sp, .int .i64 kh]] w fun e w' => e = .returned (.bool true) ∧ Below w.heap.size w w' := by
  unfold maxLen at hn hd hc
  by_cases h1 : 18 < a.n
  · exact tfn_bigA a d dd nd sp kh A c B e C g0 w h1 (by omega)
  · by_cases h2 : 18 < d.n
    · exact tfn_bigB a d dd nd sp kh A c B e C g0 w (by omega) h2 (by omega)
    · by_cases h3 : 16 < nd
      · exact tfn_bigC a d dd nd sp kh A c B e C g0 w (by omega) (by omega) h3 (by omega)
      · exact tfn_any a d dd nd sp kh A c B e C g0 w hA hB hC h g k (by omega) (by omega) (by omega)
end Go.Proofs.Ytdicndakelgoeaa
