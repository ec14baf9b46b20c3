/- awake of chapter 2 -/
import Derived.Test.YtnckfbejgkdhhaaGreatDoorU4
import Derived.Test.YtnckfbejgkdhhaaGreatDoorV12
import Derived.Test.YtnckfbejgkdhhaaGreatDoorV18
namespace Go.Proofs.YtnckfbejgkdhhaaGreatDoor
open Go.RowKit Go.Shelf RayM
set_option linter.unusedSimpArgs false
set_option linter.unusedVariables false
theorem lw_get (i : Nat) (h : i < 2) : ([1200, 0].map (Value.int .i64))[i]? = some (.int .i64 (lwT i)) := by
  rcases (show i = 0 ∨ i = 1 by omega) with rfl | rfl <;> rfl
def lwD : Dl := ⟨1000, lwT, 2⟩
theorem lw_S : two.SLo lwD twoF = 0 ∧ two.SHi lwD twoF = 19 ∧ two.SE lwD twoF = 0 := by decide +kernel
theorem focus_two (w : World) (A : Option Addr) (c : Nat) (h : SpAt A 2 two.p w) : Calls Tryz.prog 13 #[.agg #[.slice A 2 c, .int .i64 2500, .int .i64 5000, .int .i64 0, .int .i64 1000, .int .i64 1000], .agg #[.int .i64 0, .int .i64 400]] w fun e w' => ∃ B d, e = .returned (.tuple #[.agg #[.int .i64 1000, .slice B 2 d], .int .i64 0]) ∧ InAt B 2 lwT w' ∧ Below w.heap.size w w' := by
  refine (focus_any two twoF A c w h (by decide)).mono ?_
  rintro e w' ⟨v, he, hown, hb⟩
  obtain ⟨e1, e2, e3⟩ := two_E
  rw [e1, e2] at he
  rw [e3] at hown
  obtain ⟨B, d, rfl, hI⟩ := own_ints lw_get hown
  exact ⟨B, d, he, hI, hb⟩
theorem spread_two (w : World) (A : Option Addr) (c : Nat) (B : Option Addr) (d : Nat) (h : SpAt A 2 two.p w) (k : InAt B 2 lwT w) : Calls Tryz.prog 15 #[.agg #[.slice A 2 c, .int .i64 2500, .int .i64 5000, .int .i64 0, .int .i64 1000, .int .i64 1000], .agg #[.int .i64 1000, .slice B 2 d], .agg #[.int .i64 0, .int .i64 400]] w fun e w' => e = .returned (.tuple #[.agg #[.int .i64 0, .int .i64 19], .int .i64 0]) ∧ Below w.heap.size w w' := by
  refine (spreadOf_any two lwD twoF A c B d w h k (by decide) (by decide)).mono ?_
  rintro e w' ⟨he, hb⟩
  obtain ⟨e1, e2, e3⟩ := lw_S
  rw [e1, e2, e3] at he
  exact ⟨he, hb⟩
theorem near_ex (w : World) : Calls Tryz.prog 16 #[.int .i64 1000, .int .i64 5900, .int .i64 5000] w fun e w' => e = .returned (.tuple #[.agg #[.int .i64 2118, .int .i64 2119], .int .i64 0]) ∧ Below w.heap.size w w' := by
  refine (nearField_any 1000 5900 5000 w).mono ?_
  rintro e w' ⟨he, hb⟩
  rw [show nfLo 1000 5900 5000 = 2118 from by decide +kernel, show nfHi 1000 5900 5000 = 2119 from by decide +kernel, show nfE 1000 5900 5000 = 0 from by decide +kernel] at he
  exact ⟨he, hb⟩
theorem parse_ex (w : World) (hL : Laid w) :
    Calls Tryz.prog 8 #[.string ⟨#[49, 48, 48, 48, 32, 45, 32, 48]⟩] w fun e w' => ∃ A c, e = .returned (.tuple #[.agg #[.int .i64 1000, .slice A 2 c], .int .i64 0]) ∧ InAt A 2 tkF w' ∧ Below w.heap.size w w' := by
  refine (parse_any w hL).mono ?_
  rintro e w' ⟨A, c, he, hown, hb⟩
  obtain ⟨A', c', hv, hI⟩ := own_ints tk_get hown
  simp only [Value.slice.injEq] at hv
  obtain ⟨rfl, _, rfl⟩ := hv
  exact ⟨A, c, he, hI, hb⟩
theorem eqB_self (l : Nat → Int) (n : Nat) : eqB l n l n = true := (eqB_iff l n l n).2 ⟨rfl, fun _ _ => rfl⟩
set_option maxRecDepth 100000 in
set_option maxHeartbeats 1000000 in
theorem same_yes (ck : Int) (A : Option Addr) (c : Nat) (B : Option Addr) (d : Nat) (l : Nat → Int) (w : World) (h : InAt A 2 l w) (k : InAt B 2 l w) :
    Calls Tryz.prog 11 #[.agg #[.int .i64 ck, .slice A 2 c], .agg #[.int .i64 ck, .slice B 2 d]] w fun e w' => e = .returned (.bool true) ∧ Below w.heap.size w w' := by
  have HA := Lib.hid h; have HB := Lib.hid k
  clear h k
  have HI : Hid (∀ w, InAt A 2 l w → InAt B 2 l w → Calls Tryz.prog 29 #[.slice A 2 c, .slice B 2 d] w fun e w' => e = .returned (.bool true) ∧ Below w.heap.size w w') := Lib.hid (fun w h k => by have := ints_any A 2 c l B 2 d l w (by decide) (by decide) h k; rw [eqB_self] at this; exact this)
  go_enter Tryz.func11, Tryz.ntmps11
  go_wp2_with (go_at_call 29; (with_reducible refine (HI.out _ (HA.out.later (by repeat (first | exact Below.refl _ _ | refine Below.alloc ?_ (by first | omega | (simp; done) | (simp; omega)) _))) (HB.out.later (by repeat (first | exact Below.refl _ _ | refine Below.alloc ?_ (by first | omega | (simp; done) | (simp; omega)) _)))).mono ?_); rintro e w1 ⟨rfl, hb1⟩; have H1 := Lib.hid (Below.trans (by repeat (first | exact Below.refl _ _ | refine Below.alloc ?_ (by first | omega | (simp; done) | (simp; omega)) _)) (hb1.mono (by simp; omega)) : Below w.heap.size w w1); clear hb1)
  go_ret
  exact ⟨rfl, H1.out⟩
theorem eqR1 (w : World) : (Op.equalIn 10000 47 (.agg #[.int .i64 0, .int .i64 19]) (.agg #[.int .i64 0, .int .i64 19])).run Tryz.prog w = .ok true w := by kernel_rfl
theorem eqR2 (w : World) : (Op.equalIn 10000 47 (.agg #[.int .i64 2118, .int .i64 2119]) (.agg #[.int .i64 2118, .int .i64 2119])).run Tryz.prog w = .ok true w := by kernel_rfl
set_option maxRecDepth 100000 in
set_option maxHeartbeats 1000000 in
theorem awake_any (w : World) (hL : Laid w) : Calls Tryz.prog 4 #[] w fun e w' => e = .returned (.bool true) ∧ Below w.heap.size w w' := by
  have LH := Lib.hid hL
  clear hL
  go_enter Tryz.func4, Tryz.ntmps4
  go_wp2_with fail
  refine (two_any w).mono ?_
  rintro e w1 ⟨A1, c1, rfl, hA1, hb1⟩
  have H1 : Hid (Below w.heap.size w w1) := Lib.hid hb1
  have s1 := hb1.size
  clear hb1
  go_wp2_with fail
  refine (focus_two w1 A1 c1 hA1).mono ?_
  rintro e w2 ⟨B2, d2, rfl, hI2, hb2⟩
  have H2 : Hid (Below w.heap.size w w2) := Lib.hid (below_then H1.out hb2)
  have s2 := hb2.size
  clear hb2
  clear H1
  go_wp2_with fail
  obtain ⟨w3, hw3⟩ : ∃ q, q = w2.alloc (.cells #[.int .i64 1000, .slice B2 2 d2] 24) := ⟨_, rfl⟩
  rw [← hw3]
  have hb3 : Below w2.heap.size w2 w3 := by rw [hw3]; exact below_one _ _
  have t0_0_3 : w3.cell? ⟨w2.heap.size, 0, none⟩ = some (.int .i64 1000) := by rw [hw3]; simp [go_sem]
  have t0_1_3 : w3.cell? ⟨w2.heap.size, 1, none⟩ = some (.slice B2 2 d2) := by rw [hw3]; simp [go_sem]
  have n3 : w2.heap.size + 1 = w3.heap.size := by rw [hw3]; simp
  clear hw3
  have hI3 := hI2.later hb3
  have H3 : Hid (Below w.heap.size w w3) := Lib.hid (below_then H2.out hb3)
  have s3 := hb3.size
  clear hb3
  clear hI2 H2
  refine (two_any w3).mono ?_
  rintro e w4 ⟨A4, c4, rfl, hA4, hb4⟩
  have t0_0_4 := cell_later hb4 t0_0_3
  have t0_1_4 := cell_later hb4 t0_1_3
  have hI4 := hI3.later hb4
  have H4 : Hid (Below w.heap.size w w4) := Lib.hid (below_then H3.out hb4)
  have s4 := hb4.size
  clear hb4
  clear t0_0_3 t0_1_3 hI3 H3
  go_wp2_with fail
  obtain ⟨w5, hw5⟩ : ∃ q, q = w4.alloc (.cells #[.int .i64 1200, .int .i64 0] 3) := ⟨_, rfl⟩
  rw [← hw5]
  have hb5 : Below w4.heap.size w4 w5 := by rw [hw5]; exact below_one _ _
  have t1_0_5 : w5.cell? ⟨w4.heap.size, 0, none⟩ = some (.int .i64 1200) := by rw [hw5]; simp [go_sem]
  have t1_1_5 : w5.cell? ⟨w4.heap.size, 1, none⟩ = some (.int .i64 0) := by rw [hw5]; simp [go_sem]
  have n5 : w4.heap.size + 1 = w5.heap.size := by rw [hw5]; simp
  clear hw5
  have t0_0_5 := cell_later hb5 t0_0_4
  have t0_1_5 := cell_later hb5 t0_1_4
  have hI5 := hI4.later hb5
  have hA5 := hA4.later hb5
  have H5 : Hid (Below w.heap.size w w5) := Lib.hid (below_then H4.out hb5)
  have s5 := hb5.size
  clear hb5
  clear t0_0_4 t0_1_4 hI4 hA4 H4
  have hJ5 : InAt (some ⟨w4.heap.size, 0, none⟩) 2 lwT w5 := fun _ => ⟨_, rfl, fun i hi => by
    rcases (show i = 0 ∨ i = 1 by omega) with rfl | rfl <;> rw [add_off]
    · exact t1_0_5
    · exact t1_1_5⟩
  refine (spread_two w5 A4 c4 _ 2 hA5 hJ5).mono ?_
  rintro e w6 ⟨rfl, hb6⟩
  have t0_0_6 := cell_later hb6 t0_0_5
  have t0_1_6 := cell_later hb6 t0_1_5
  have t1_0_6 := cell_later hb6 t1_0_5
  have t1_1_6 := cell_later hb6 t1_1_5
  have hI6 := hI5.later hb6
  have hA6 := hA5.later hb6
  have hJ6 := hJ5.later hb6
  have H6 : Hid (Below w.heap.size w w6) := Lib.hid (below_then H5.out hb6)
  have s6 := hb6.size
  clear hb6
  clear t0_0_5 t0_1_5 t1_0_5 t1_1_5 hI5 hA5 hJ5 H5
  clear hA6 hJ6 t1_0_6 t1_1_6
  go_wp2_with fail
  obtain ⟨w7, hw7⟩ : ∃ q, q = w6.alloc (.cells #[.int .i64 0, .int .i64 19] 47) := ⟨_, rfl⟩
  rw [← hw7]
  have hb7 : Below w6.heap.size w6 w7 := by rw [hw7]; exact below_one _ _
  have t1_0_7 : w7.cell? ⟨w6.heap.size, 0, none⟩ = some (.int .i64 0) := by rw [hw7]; simp [go_sem]
  have t1_1_7 : w7.cell? ⟨w6.heap.size, 1, none⟩ = some (.int .i64 19) := by rw [hw7]; simp [go_sem]
  have n7 : w6.heap.size + 1 = w7.heap.size := by rw [hw7]; simp
  clear hw7
  have t0_0_7 := cell_later hb7 t0_0_6
  have t0_1_7 := cell_later hb7 t0_1_6
  have hI7 := hI6.later hb7
  have H7 : Hid (Below w.heap.size w w7) := Lib.hid (below_then H6.out hb7)
  have s7 := hb7.size
  clear hb7
  clear t0_0_6 t0_1_6 hI6 H6
  refine (near_ex w7).mono ?_
  rintro e w8 ⟨rfl, hb8⟩
  have t0_0_8 := cell_later hb8 t0_0_7
  have t0_1_8 := cell_later hb8 t0_1_7
  have t1_0_8 := cell_later hb8 t1_0_7
  have t1_1_8 := cell_later hb8 t1_1_7
  have hI8 := hI7.later hb8
  have H8 : Hid (Below w.heap.size w w8) := Lib.hid (below_then H7.out hb8)
  have s8 := hb8.size
  clear hb8
  clear t0_0_7 t0_1_7 t1_0_7 t1_1_7 hI7 H7
  go_wp2_with fail
  obtain ⟨w9, hw9⟩ : ∃ q, q = w8.alloc (.cells #[.int .i64 2118, .int .i64 2119] 47) := ⟨_, rfl⟩
  rw [← hw9]
  have hb9 : Below w8.heap.size w8 w9 := by rw [hw9]; exact below_one _ _
  have t2_0_9 : w9.cell? ⟨w8.heap.size, 0, none⟩ = some (.int .i64 2118) := by rw [hw9]; simp [go_sem]
  have t2_1_9 : w9.cell? ⟨w8.heap.size, 1, none⟩ = some (.int .i64 2119) := by rw [hw9]; simp [go_sem]
  have n9 : w8.heap.size + 1 = w9.heap.size := by rw [hw9]; simp
  clear hw9
  have t0_0_9 := cell_later hb9 t0_0_8
  have t0_1_9 := cell_later hb9 t0_1_8
  have t1_0_9 := cell_later hb9 t1_0_8
  have t1_1_9 := cell_later hb9 t1_1_8
  have hI9 := hI8.later hb9
  have H9 : Hid (Below w.heap.size w w9) := Lib.hid (below_then H8.out hb9)
  have s9 := hb9.size
  clear hb9
  clear t0_0_8 t0_1_8 t1_0_8 t1_1_8 hI8 H8
  refine (parse_ex w9 (LH.out.later H9.out)).mono ?_
  rintro e w10 ⟨A0, c0, rfl, hK10, hb10⟩
  have t0_0_10 := cell_later hb10 t0_0_9
  have t0_1_10 := cell_later hb10 t0_1_9
  have t1_0_10 := cell_later hb10 t1_0_9
  have t1_1_10 := cell_later hb10 t1_1_9
  have t2_0_10 := cell_later hb10 t2_0_9
  have t2_1_10 := cell_later hb10 t2_1_9
  have hI10 := hI9.later hb10
  have H10 : Hid (Below w.heap.size w w10) := Lib.hid (below_then H9.out hb10)
  have s10 := hb10.size
  clear hb10
  clear t0_0_9 t0_1_9 t1_0_9 t1_1_9 t2_0_9 t2_1_9 hI9 H9
  have y0 := World.block_lt_of_cell? _ _ t0_0_10
  dsimp only at y0
  have y1 := World.block_lt_of_cell? _ _ t1_0_10
  dsimp only at y1
  have y2 := World.block_lt_of_cell? _ _ t2_0_10
  dsimp only at y2
  go_wp2_with fail
  clear y0 y1 y2
  obtain ⟨w11, hw11⟩ : ∃ q, q = w10.alloc (.cells #[.int .i64 1000, .slice A0 2 c0] 24) := ⟨_, rfl⟩
  rw [← hw11]
  have hb11 : Below w10.heap.size w10 w11 := by rw [hw11]; exact below_one _ _
  have t3_0_11 : w11.cell? ⟨w10.heap.size, 0, none⟩ = some (.int .i64 1000) := by rw [hw11]; simp [go_sem]
  have t3_1_11 : w11.cell? ⟨w10.heap.size, 1, none⟩ = some (.slice A0 2 c0) := by rw [hw11]; simp [go_sem]
  have n11 : w10.heap.size + 1 = w11.heap.size := by rw [hw11]; simp
  clear hw11
  have t0_0_11 := cell_later hb11 t0_0_10
  have t0_1_11 := cell_later hb11 t0_1_10
  have t1_0_11 := cell_later hb11 t1_0_10
  have t1_1_11 := cell_later hb11 t1_1_10
  have t2_0_11 := cell_later hb11 t2_0_10
  have t2_1_11 := cell_later hb11 t2_1_10
  have hI11 := hI10.later hb11
  have hK11 := hK10.later hb11
  have H11 : Hid (Below w.heap.size w w11) := Lib.hid (below_then H10.out hb11)
  have s11 := hb11.size
  clear hb11
  clear t0_0_10 t0_1_10 t1_0_10 t1_1_10 t2_0_10 t2_1_10 hI10 hK10 H10
  obtain ⟨w12, hw12⟩ : ∃ q, q = w11.alloc (.cells #[.int .i64 1200, .int .i64 0] 3) := ⟨_, rfl⟩
  rw [← hw12]
  have hb12 : Below w11.heap.size w11 w12 := by rw [hw12]; exact below_one _ _
  have t4_0_12 : w12.cell? ⟨w11.heap.size, 0, none⟩ = some (.int .i64 1200) := by rw [hw12]; simp [go_sem]
  have t4_1_12 : w12.cell? ⟨w11.heap.size, 1, none⟩ = some (.int .i64 0) := by rw [hw12]; simp [go_sem]
  have n12 : w11.heap.size + 1 = w12.heap.size := by rw [hw12]; simp
  clear hw12
  have t0_0_12 := cell_later hb12 t0_0_11
  have t0_1_12 := cell_later hb12 t0_1_11
  have t1_0_12 := cell_later hb12 t1_0_11
  have t1_1_12 := cell_later hb12 t1_1_11
  have t2_0_12 := cell_later hb12 t2_0_11
  have t2_1_12 := cell_later hb12 t2_1_11
  have t3_0_12 := cell_later hb12 t3_0_11
  have t3_1_12 := cell_later hb12 t3_1_11
  have hI12 := hI11.later hb12
  have hK12 := hK11.later hb12
  have H12 : Hid (Below w.heap.size w w12) := Lib.hid (below_then H11.out hb12)
  have s12 := hb12.size
  clear hb12
  clear t0_0_11 t0_1_11 t1_0_11 t1_1_11 t2_0_11 t2_1_11 t3_0_11 t3_1_11 hI11 hK11 H11
  have hJ12 : InAt (some ⟨w11.heap.size, 0, none⟩) 2 lwT w12 := fun _ => ⟨_, rfl, fun i hi => by
    rcases (show i = 0 ∨ i = 1 by omega) with rfl | rfl <;> rw [add_off]
    · exact t4_0_12
    · exact t4_1_12⟩
  rw [n11]
  clear n3 n5 n7 n9 n11 n12
  go_at_call 11
  with_reducible refine (same_yes 1000 B2 d2 _ 2 lwT w12 hI12 hJ12).mono ?_
  rintro e w13 ⟨rfl, hb13⟩
  have t0_0_13 := cell_later hb13 t0_0_12
  have t0_1_13 := cell_later hb13 t0_1_12
  have t1_0_13 := cell_later hb13 t1_0_12
  have t1_1_13 := cell_later hb13 t1_1_12
  have t2_0_13 := cell_later hb13 t2_0_12
  have t2_1_13 := cell_later hb13 t2_1_12
  have t3_0_13 := cell_later hb13 t3_0_12
  have t3_1_13 := cell_later hb13 t3_1_12
  have t4_0_13 := cell_later hb13 t4_0_12
  have t4_1_13 := cell_later hb13 t4_1_12
  have hI13 := hI12.later hb13
  have hK13 := hK12.later hb13
  have hJ13 := hJ12.later hb13
  have H13 : Hid (Below w.heap.size w w13) := Lib.hid (below_then H12.out hb13)
  have s13 := hb13.size
  clear hb13
  clear t0_0_12 t0_1_12 t1_0_12 t1_1_12 t2_0_12 t2_1_12 t3_0_12 t3_1_12 t4_0_12 t4_1_12 hI12 hK12 hJ12 H12
  clear hJ13 hI13 t4_0_13 t4_1_13
  have z1 := eqR1 w13
  have z2 := eqR2 w13
  go_wp2_with fail
  obtain ⟨w14, hw14⟩ : ∃ q, q = w13.alloc (.cells #[.int .i64 (-1), .int .i64 0] 3) := ⟨_, rfl⟩
  rw [← hw14]
  have hb14 : Below w13.heap.size w13 w14 := by rw [hw14]; exact below_one _ _
  have t4_0_14 : w14.cell? ⟨w13.heap.size, 0, none⟩ = some (.int .i64 (-1)) := by rw [hw14]; simp [go_sem]
  have t4_1_14 : w14.cell? ⟨w13.heap.size, 1, none⟩ = some (.int .i64 0) := by rw [hw14]; simp [go_sem]
  have n14 : w13.heap.size + 1 = w14.heap.size := by rw [hw14]; simp
  clear hw14
  have t0_0_14 := cell_later hb14 t0_0_13
  have t0_1_14 := cell_later hb14 t0_1_13
  have t1_0_14 := cell_later hb14 t1_0_13
  have t1_1_14 := cell_later hb14 t1_1_13
  have t2_0_14 := cell_later hb14 t2_0_13
  have t2_1_14 := cell_later hb14 t2_1_13
  have t3_0_14 := cell_later hb14 t3_0_13
  have t3_1_14 := cell_later hb14 t3_1_13
  have hK14 := hK13.later hb14
  have H14 : Hid (Below w.heap.size w w14) := Lib.hid (below_then H13.out hb14)
  have s14 := hb14.size
  clear hb14
  clear t0_0_13 t0_1_13 t1_0_13 t1_1_13 t2_0_13 t2_1_13 t3_0_13 t3_1_13 hK13 H13
  have hJ14 : InAt (some ⟨w13.heap.size, 0, none⟩) 2 tkF w14 := fun _ => ⟨_, rfl, fun i hi => by
    rcases (show i = 0 ∨ i = 1 by omega) with rfl | rfl <;> rw [add_off]
    · exact t4_0_14
    · exact t4_1_14⟩
  go_at_call 11
  with_reducible refine (same_yes 1000 A0 c0 _ 2 tkF w14 hK14 hJ14).mono ?_
  rintro e w15 ⟨rfl, hb15⟩
  have t0_0_15 := cell_later hb15 t0_0_14
  have t0_1_15 := cell_later hb15 t0_1_14
  have t1_0_15 := cell_later hb15 t1_0_14
  have t1_1_15 := cell_later hb15 t1_1_14
  have t2_0_15 := cell_later hb15 t2_0_14
  have t2_1_15 := cell_later hb15 t2_1_14
  have t3_0_15 := cell_later hb15 t3_0_14
  have t3_1_15 := cell_later hb15 t3_1_14
  have t4_0_15 := cell_later hb15 t4_0_14
  have t4_1_15 := cell_later hb15 t4_1_14
  have hK15 := hK14.later hb15
  have hJ15 := hJ14.later hb15
  have H15 : Hid (Below w.heap.size w w15) := Lib.hid (below_then H14.out hb15)
  have s15 := hb15.size
  clear hb15
  clear t0_0_14 t0_1_14 t1_0_14 t1_1_14 t2_0_14 t2_1_14 t3_0_14 t3_1_14 t4_0_14 t4_1_14 hK14 hJ14 H14
  go_wp2
  go_ret
  exact ⟨rfl, H15.out⟩
end Go.Proofs.YtnckfbejgkdhhaaGreatDoor
