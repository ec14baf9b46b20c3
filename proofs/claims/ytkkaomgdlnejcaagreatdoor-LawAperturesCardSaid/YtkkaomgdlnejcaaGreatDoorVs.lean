/- the reference's error of an array and a law -/
import Derived.Test.YtkkaomgdlnejcaaGreatDoorVc
import Derived.Test.YtkkaomgdlnejcaaGreatDoorV12
namespace Go.Proofs.YtkkaomgdlnejcaaGreatDoor
open Go.RowKit Go.Shelf RayM
set_option linter.unusedSimpArgs false
set_option linter.unusedVariables false
theorem paE_a (a : La) (d : Dl) (h : a.E ≠ 0) : paE a d = a.E := by unfold paE; simp [fst, h]
theorem paE_d (a : La) (d : Dl) (h : a.E = 0) (k : d.E ≠ 0) : paE a d = d.E := by unfold paE; simp [fst, h, k]
theorem paE_yes (a : La) (d : Dl) (h : a.E = 0) (k : d.E = 0) (e : a.n = d.n) : paE a d = 0 := (paE_zero a d).2 ⟨h, k, e⟩
theorem paE_no (a : La) (d : Dl) (h : a.E = 0) (k : d.E = 0) (e : a.n ≠ d.n) : paE a d = 10 := by
  have q : ((a.n : Int) == (d.n : Int)) = false := by simp; omega
  unfold paE unl; simp [fst, h, k, q]
set_option maxRecDepth 100000 in
set_option maxHeartbeats 1000000 in
theorem rPairErr_any (a : La) (d : Dl) (A : Option Addr) (c : Nat) (B : Option Addr) (e : Nat) (w : World) (h : SpAt A a.n a.p w) (g : InAt B d.n d.t w) (hm : a.n ≤ 9223372036854775807) (hm2 : d.n ≤ 9223372036854775807) :
    Calls Tryz.prog 20 #[.agg #[.slice A a.n c, .int .i64 a.m.wd, .int .i64 a.m.mt, .int .i64 a.m.sk, .int .i64 a.m.th, .int .i64 a.ck], .agg #[.int .i64 d.ck, .slice B d.n e]] w fun e w' => e = .returned (.int .i64 (paE a d)) ∧ Below w.heap.size w w' := by
  have HX := Lib.hid h; clear h
  have HT := Lib.hid g; clear g
  have HCA := Lib.hid (fun w h => rCheckArray_any a A c w h hm)
  have HCL := Lib.hid (fun w h => rCheckLaw_any d B e w h hm2)
  have P1 := Lib.hid (paE_a a d); have P2 := Lib.hid (paE_d a d); have P3 := Lib.hid (paE_yes a d); have P4 := Lib.hid (paE_no a d)
  generalize paE a d = E5 at *
  generalize a.E = ea at *
  generalize d.E = ed at *
  generalize (a.I : Int) = ia at *
  generalize (d.I : Int) = id' at *
  go_enter Tryz.func20, Tryz.ntmps20
  go_wp2_with fail
  refine (HCA.out _ (HX.out.later (by repeat (first | exact Below.refl _ _ | refine Below.drew ?_ | refine below_drewN ?_ _ | refine Below.setCell ?_ (by first | omega | (simp; done) | (simp; omega)) _ | refine Below.alloc ?_ (by first | omega | (simp; done) | (simp; omega)) _)))).mono ?_
  rintro e w1 ⟨rfl, hb1⟩
  have qw10 : w1.cell? ⟨w.heap.size, 0, none⟩ = some (.slice A a.n c) := cell_later hb1 (by simp [go_sem])
  have qw11 : w1.cell? ⟨w.heap.size, 1, none⟩ = some (.int .i64 a.m.wd) := cell_later hb1 (by simp [go_sem])
  have qw12 : w1.cell? ⟨w.heap.size, 2, none⟩ = some (.int .i64 a.m.mt) := cell_later hb1 (by simp [go_sem])
  have qw13 : w1.cell? ⟨w.heap.size, 3, none⟩ = some (.int .i64 a.m.sk) := cell_later hb1 (by simp [go_sem])
  have qw14 : w1.cell? ⟨w.heap.size, 4, none⟩ = some (.int .i64 a.m.th) := cell_later hb1 (by simp [go_sem])
  have qw15 : w1.cell? ⟨w.heap.size, 5, none⟩ = some (.int .i64 a.ck) := cell_later hb1 (by simp [go_sem])
  have qw16 : w1.cell? ⟨w.heap.size + 1, 0, none⟩ = some (.int .i64 d.ck) := cell_later hb1 (by simp [go_sem])
  have qw17 : w1.cell? ⟨w.heap.size + 1, 1, none⟩ = some (.slice B d.n e) := cell_later hb1 (by simp [go_sem])
  have zqw1_0 := World.block_lt_of_cell? _ _ qw10
  dsimp only at zqw1_0
  have zqw1_6 := World.block_lt_of_cell? _ _ qw16
  dsimp only at zqw1_6
  have H1 : Hid (Below w.heap.size w w1) := Lib.hid (below_after (by repeat (first | exact Below.refl _ _ | refine Below.drew ?_ | refine below_drewN ?_ _ | refine Below.setCell ?_ (by first | omega | (simp; done) | (simp; omega)) _ | refine Below.alloc ?_ (by first | omega | (simp; done) | (simp; omega)) _)) hb1 (by first | omega | (simp; done) | (simp; omega))); clear hb1
  have R1_0 := Lib.hid (HX.out.later H1.out)
  have R1_1 := Lib.hid (HT.out.later H1.out)
  by_cases hE : ea = 0
  · have P2' := Lib.hid (P2.out hE)
    have P3' := Lib.hid (P3.out hE)
    have P4' := Lib.hid (P4.out hE)
    subst hE
    clear P1 P2 P3 P4 HCA
    go_wp2_with fail
    refine (HCL.out _ R1_1.out).mono ?_
    rintro e_ wB ⟨rfl, hb⟩
    have k2_0 := cell_later hb qw10
    have k2_1 := cell_later hb qw11
    have k2_2 := cell_later hb qw12
    have k2_3 := cell_later hb qw13
    have k2_4 := cell_later hb qw14
    have k2_5 := cell_later hb qw15
    have k2_6 := cell_later hb qw16
    have k2_7 := cell_later hb qw17
    have R2_0 := Lib.hid (R1_0.out.later hb)
    have R2_1 := Lib.hid (R1_1.out.later hb)
    have B2 : Hid (Below w.heap.size w wB) := Lib.hid (below_then H1.out hb)
    clear qw10 qw11 qw12 qw13 qw14 qw15 qw16 qw17 R1_0 R1_1 H1
    have z2_0 := World.block_lt_of_cell? _ _ k2_0
    (try dsimp only at z2_0)
    have z2_6 := World.block_lt_of_cell? _ _ k2_6
    (try dsimp only at z2_6)
    clear hb
    by_cases hD : ed = 0
    · have P3'' := Lib.hid (P3'.out hD)
      have P4'' := Lib.hid (P4'.out hD)
      subst hD
      clear P2' P3' P4'
      by_cases hn : a.n = d.n
      · have e5 := P3''.out hn
        subst e5
        have n3 : ((d.n : Int) != (a.n : Int)) = false := by simp; omega
        clear P3'' P4'' hn
        go_wp2
        go_ret
        exact ⟨rfl, B2.out⟩
      · have e5 := P4''.out hn
        subst e5
        have n3 : ((d.n : Int) != (a.n : Int)) = true := by simp; omega
        clear P3'' P4'' hn
        go_wp2
        go_ret
        exact ⟨rfl, B2.out⟩
    · have e5 := (P2'.out hD).symm
      subst e5
      have n2 : (ed != 0) = true := by simpa using hD
      clear P2' P3' P4' hD
      go_wp2
      go_ret
      exact ⟨rfl, B2.out⟩
  · have e5 := (P1.out hE).symm
    subst e5
    have n1 : (ea != 0) = true := by simpa using hE
    clear P1 P2 P3 P4 HCL hE
    go_wp2
    go_ret
    exact ⟨rfl, H1.out⟩
end Go.Proofs.YtkkaomgdlnejcaaGreatDoor
