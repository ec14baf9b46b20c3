/- the examples of the chapter -/
import Derived.Test.YtoieemgdkpnbfaaFl11
import Derived.Test.YtoieemgdkpnbfaaFl12
namespace Go.Proofs.Ytoieemgdkpnbfaa
open Go.RowKit RayM
set_option linter.unusedSimpArgs false
set_option linter.unusedVariables false
section
variable {P : Program}
theorem wpList_store_lit {ops : Array Oper} {rest : List Oper} {op : Oper} {a : Act} {w : World} {Q : Exit → Act → World → Prop} (hgd : op.guard = none) (t : TypeId) (x y : Operand) (ho : op.op = .store t x y)
    (b n : Nat) (f : Nat → Value) (v : Array Value) (hx : a.eval x = .pointer (some ⟨b, 0, none⟩)) (hy : a.eval y = .agg v) (c : VAt b n f w) (z : Fz b n w) (hn : v.size = n) (h1 : ∀ i, i < n → (cel v i).oneCell' = true) (hi : (P.info? t).map (·.size) = some n)
    (h : ∀ w0, w0.heap.size = w.heap.size → (∀ B W, B ≤ b → Below B W w → Below B W w0) → VAt b n (cel v) w0 → Fz b n w0 → (∀ b' n' f', b' ≠ b → VAt b' n' f' w → VAt b' n' f' w0) → (∀ b' n', Fz b' n' w → Fz b' n' w0) → wpList P ops Q rest (a.put op.dst undef) w0) : wpList P ops Q (op :: rest) a w := by
  subst hn
  exact wpList_store_at hgd t x y ho b v.size f (cel v) hx (by rw [vls_cel]; exact hy) c z h1 hi h
end
theorem few_spk (p : Nat) (v : Int) (h : v.natAbs < 8192) : Few (spk p v) := fun i _ => by unfold spk; split <;> omega
theorem ex_peakE : pkE (spk 10 100) 0 60 = 0 := by decide +kernel
theorem ex_peakP : pkP (spk 10 100) 0 60 = (7, 10000) := by decide +kernel
theorem ex_ct : ctE (spk 10 100) = 0 := by decide +kernel
theorem ex_lagE : lgE (spk 10 100) (spk 13 50) 5 = 0 := by decide +kernel
theorem ex_lagR : lgR (spk 10 100) (spk 13 50) 5 = 3 := by decide +kernel
theorem ex_gate : gtR 1000 400 1200 2200 = 0 ∧ gtA 1000 400 1200 2200 = 1 ∧ gtB 1000 400 1200 2200 = 3 := by decide +kernel
theorem ex_an9 : anv (spk 10 100) 9 = .complex .f32 (fs 0) (fs 100) := rfl
theorem ex_an10 : anv (spk 10 100) 10 = .complex .f32 (fs 100) (fs 0) := rfl
theorem exPeak (w : World) : Calls Try.prog 30 #[.agg (vls 64 (fv (spk 10 100))).toArray, .agg #[.int .i64 0, .int .i64 60]] w fun e w' => e = .returned (.tuple #[.agg #[.int .i64 7, .int .i64 10000], .int .i64 0]) ∧ Below w.heap.size w w' := by
  have := peakIn_any (spk 10 100) 0 60 (few_spk _ _ (by decide)) w
  rw [ex_peakE, ex_peakP] at this
  exact this
theorem exAnalytic (w : World) : Calls Try.prog 25 #[.agg (vls 64 (fv (spk 10 100))).toArray] w fun e w' => e = .returned (.tuple #[.agg (vls 61 (anv (spk 10 100))).toArray, .int .i64 0]) ∧ Below w.heap.size w w' := by
  have := analytic_any (spk 10 100) (few_spk _ _ (by decide)) w
  rw [ex_ct] at this
  exact this
theorem exLag (w : World) : Calls Try.prog 35 #[.agg (vls 64 (fv (spk 10 100))).toArray, .agg (vls 64 (fv (spk 13 50))).toArray, .int .i64 5] w fun e w' => e = .returned (.tuple #[.int .i64 3, .int .i64 0]) ∧ Below w.heap.size w w' := by
  have := lagOf_any (spk 10 100) (spk 13 50) 5 w (few_spk _ _ (by decide)) (few_spk _ _ (by decide))
  rw [ex_lagE, ex_lagR] at this
  exact this
theorem exGate (w : World) : Calls Try.prog 39 #[.agg #[.int .i64 1000, .int .i64 400], .agg #[.int .i64 1200, .int .i64 2200]] w fun e w' => e = .returned (.tuple #[.agg #[.int .i64 1, .int .i64 3], .int .i64 0]) ∧ Below w.heap.size w w' := by
  have := gateOf_any 1000 400 1200 2200 w
  obtain ⟨h1, h2, h3⟩ := ex_gate
  rw [h1, h2, h3] at this
  exact this
theorem infoP : (Try.prog.info? 65).map (·.size) = some (#[Value.int .i64 0, .int .i64 0]).size := by kernel_rfl
theorem infoG : (Try.prog.info? 63).map (·.size) = some (#[Value.int .i64 0, .int .i64 0]).size := by kernel_rfl
theorem oneP (a b : Int) (n : Nat) (hn : n = 2) : ∀ i, i < n → (cel #[.int .i64 a, .int .i64 b] i).oneCell' = true := fun i hi => by
  subst hn
  have : i = 0 ∨ i = 1 := by omega
  rcases this with rfl | rfl <;> rfl
def exX (i : Nat) : Int := if i = 0 then 0 else 100
def exY (i : Nat) : Int := if i = 0 then 100 else 0
theorem exCx (b o : Nat) (w : World) (h0 : w.cell? ⟨b, o, none⟩ = some (.complex .f32 (fs 0) (fs 100))) (h1 : w.cell? ⟨b, o + 1, none⟩ = some (.complex .f32 (fs 100) (fs 0))) : CxAt ⟨b, o, none⟩ 2 exX exY w := fun i hi => by
  have : i = 0 ∨ i = 1 := by omega
  rcases this with rfl | rfl
  · exact h0
  · exact h1
theorem exSame (b o b' ca cd : Nat) (w : World) (h0 : w.cell? ⟨b, o, none⟩ = some (.complex .f32 (fs 0) (fs 100))) (h1 : w.cell? ⟨b, o + 1, none⟩ = some (.complex .f32 (fs 100) (fs 0))) (g0 : w.cell? ⟨b', 0, none⟩ = some (.complex .f32 (fs 0) (fs 100))) (g1 : w.cell? ⟨b', 1, none⟩ = some (.complex .f32 (fs 100) (fs 0))) :
    Calls Try.prog 29 #[.slice (some ⟨b, o, none⟩) 2 ca, .slice (some ⟨b', 0, none⟩) 2 cd] w fun e w' => e = .returned (.bool true) ∧ Below w.heap.size w w' :=
  sameSamples_any ⟨b, o, none⟩ ⟨b', 0, none⟩ 2 ca cd exX exY w (by decide) (fun i _ => by unfold exX; split <;> decide) (fun i _ => by unfold exY; split <;> decide) (exCx _ _ _ h0 h1) (exCx _ _ _ g0 g1)
set_option maxRecDepth 100000 in
set_option maxHeartbeats 4000000 in
theorem awake_any (w : World) : Calls Try.prog 12 #[] w fun e w' => e = .returned (.bool true) ∧ Below w.heap.size w w' := by
  go_enter Try.func12, Try.ntmps12
  go_wp2_with (first
    | (go_at_call 48; (with_reducible refine (spike10_any _).mono ?_); rintro e w1 ⟨rfl, hb1⟩; have b1 : Hid (Below w.heap.size w w1) := Lib.hid hb1; have s1' := hb1.size; clear hb1)
    | (go_at_call 30; (with_reducible refine (exPeak _).mono ?_); rintro e w2 ⟨rfl, hb2⟩; have b2 : Hid (Below w.heap.size w w2) := Lib.hid (below_then b1.out hb2); have s2' := hb2.size; clear hb2)
    | ((with_reducible refine wpList_alloc_lit rfl 65 rfl 1 rfl #[.int .i64 0, .int .i64 0] zeroP ?_); intro w3 N3; have s3 := N3.size; have cp3 := N3.at'; have zp3 := N3.free; have b3 : Hid (Below w.heap.size w w3) := Lib.hid (below_then b2.out N3.below); clear N3; have s3' := Nat.le_of_eq s3.symm; have yp0_3 : w3.cell? ⟨w2.heap.size, 0, none⟩ = some (.int .i64 0) := cp3 0 (by simp); have xp0_3 : w3.frozen? ⟨w2.heap.size, 0, none⟩ = false := zp3 0 (by simp); have yp1_3 : w3.cell? ⟨w2.heap.size, 1, none⟩ = some (.int .i64 0) := cp3 1 (by simp); have xp1_3 : w3.frozen? ⟨w2.heap.size, 1, none⟩ = false := zp3 1 (by simp))
    | ((with_reducible refine wpList_store_lit rfl 65 _ _ rfl _ _ _ #[.int .i64 7, .int .i64 10000] rfl rfl cp3 zp3 rfl (oneP _ _ _ rfl) infoP ?_); intro w4 S4 B4 cp4 zp4 O4 P4; have b4 : Hid (Below w.heap.size w w4) := Lib.hid (B4 _ _ (by omega) b3.out); have s4' := Nat.le_of_eq S4.symm; clear yp0_3 xp0_3 yp1_3 xp1_3; have yp0_4 : w4.cell? ⟨w2.heap.size, 0, none⟩ = some (.int .i64 7) := cp4 0 (by simp); have xp0_4 : w4.frozen? ⟨w2.heap.size, 0, none⟩ = false := zp4 0 (by simp); have yp1_4 : w4.cell? ⟨w2.heap.size, 1, none⟩ = some (.int .i64 10000) := cp4 1 (by simp); have xp1_4 : w4.frozen? ⟨w2.heap.size, 1, none⟩ = false := zp4 1 (by simp); clear S4 B4 O4 P4)
    | (go_at_call 48; (with_reducible refine (spike10_any _).mono ?_); rintro e w5 ⟨rfl, hb5⟩; have cp5 := cp4.later hb5; have zp5 := zp4.later cp4 hb5; have b5 : Hid (Below w.heap.size w w5) := Lib.hid (below_then b4.out hb5); have s5' := hb5.size; clear yp0_4 xp0_4 yp1_4 xp1_4; have yp0_5 : w5.cell? ⟨w2.heap.size, 0, none⟩ = some (.int .i64 7) := cp5 0 (by simp); have xp0_5 : w5.frozen? ⟨w2.heap.size, 0, none⟩ = false := zp5 0 (by simp); have yp1_5 : w5.cell? ⟨w2.heap.size, 1, none⟩ = some (.int .i64 10000) := cp5 1 (by simp); have xp1_5 : w5.frozen? ⟨w2.heap.size, 1, none⟩ = false := zp5 1 (by simp); have lp5 := World.block_lt_of_cell? _ _ yp0_5; dsimp only at lp5; clear hb5)
    | (go_at_call 25; (with_reducible refine (exAnalytic _).mono ?_); rintro e w6 ⟨rfl, hb6⟩; have cp6 := cp5.later hb6; have zp6 := zp5.later cp5 hb6; have b6 : Hid (Below w.heap.size w w6) := Lib.hid (below_then b5.out hb6); have s6' := hb6.size; clear yp0_5 xp0_5 yp1_5 xp1_5; have yp0_6 : w6.cell? ⟨w2.heap.size, 0, none⟩ = some (.int .i64 7) := cp6 0 (by simp); have xp0_6 : w6.frozen? ⟨w2.heap.size, 0, none⟩ = false := zp6 0 (by simp); have yp1_6 : w6.cell? ⟨w2.heap.size, 1, none⟩ = some (.int .i64 10000) := cp6 1 (by simp); have xp1_6 : w6.frozen? ⟨w2.heap.size, 1, none⟩ = false := zp6 1 (by simp); have lp6 := World.block_lt_of_cell? _ _ yp0_6; dsimp only at lp6; clear hb6)
    | ((with_reducible refine wpList_alloc_named rfl 49 rfl 3 rfl 61 (zcv) zeroC ?_); intro w7 N7; have s7 := N7.size; have cp7 := cp6.later N7.below; have zp7 := zp6.later cp6 N7.below; have ca7 := N7.at'; have za7 := N7.free; have b7 : Hid (Below w.heap.size w w7) := Lib.hid (below_then b6.out N7.below); clear N7; have s7' := Nat.le_of_eq s7.symm; clear yp0_6 xp0_6 yp1_6 xp1_6; have yp0_7 : w7.cell? ⟨w2.heap.size, 0, none⟩ = some (.int .i64 7) := cp7 0 (by simp); have xp0_7 : w7.frozen? ⟨w2.heap.size, 0, none⟩ = false := zp7 0 (by simp); have yp1_7 : w7.cell? ⟨w2.heap.size, 1, none⟩ = some (.int .i64 10000) := cp7 1 (by simp); have xp1_7 : w7.frozen? ⟨w2.heap.size, 1, none⟩ = false := zp7 1 (by simp))
    | ((with_reducible refine wpList_store_at rfl 49 _ _ rfl _ 61 _ (anv (spk 10 100)) rfl rfl ca7 za7 (fun _ _ => rfl) infoC ?_); intro w8 S8 B8 ca8 za8 O8 P8; have cp8 := O8 _ _ _ (by omega) cp7; have zp8 := P8 _ _ zp7; have b8 : Hid (Below w.heap.size w w8) := Lib.hid (B8 _ _ (by omega) b7.out); have s8' := Nat.le_of_eq S8.symm; clear yp0_7 xp0_7 yp1_7 xp1_7; have yp0_8 : w8.cell? ⟨w2.heap.size, 0, none⟩ = some (.int .i64 7) := cp8 0 (by simp); have xp0_8 : w8.frozen? ⟨w2.heap.size, 0, none⟩ = false := zp8 0 (by simp); have yp1_8 : w8.cell? ⟨w2.heap.size, 1, none⟩ = some (.int .i64 10000) := cp8 1 (by simp); have xp1_8 : w8.frozen? ⟨w2.heap.size, 1, none⟩ = false := zp8 1 (by simp); clear S8 B8 O8 P8)
    | (go_at_call 48; (with_reducible refine (spike10_any _).mono ?_); rintro e w9 ⟨rfl, hb9⟩; have cp9 := cp8.later hb9; have zp9 := zp8.later cp8 hb9; have ca9 := ca8.later hb9; have za9 := za8.later ca8 hb9; have b9 : Hid (Below w.heap.size w w9) := Lib.hid (below_then b8.out hb9); have s9' := hb9.size; clear yp0_8 xp0_8 yp1_8 xp1_8; have yp0_9 : w9.cell? ⟨w2.heap.size, 0, none⟩ = some (.int .i64 7) := cp9 0 (by simp); have xp0_9 : w9.frozen? ⟨w2.heap.size, 0, none⟩ = false := zp9 0 (by simp); have yp1_9 : w9.cell? ⟨w2.heap.size, 1, none⟩ = some (.int .i64 10000) := cp9 1 (by simp); have xp1_9 : w9.frozen? ⟨w2.heap.size, 1, none⟩ = false := zp9 1 (by simp); have lp9 := World.block_lt_of_cell? _ _ yp0_9; dsimp only at lp9; clear hb9)
    | (go_at_call 48; (with_reducible refine (spike13_any _).mono ?_); rintro e w10 ⟨rfl, hb10⟩; have cp10 := cp9.later hb10; have zp10 := zp9.later cp9 hb10; have ca10 := ca9.later hb10; have za10 := za9.later ca9 hb10; have b10 : Hid (Below w.heap.size w w10) := Lib.hid (below_then b9.out hb10); have s10' := hb10.size; clear yp0_9 xp0_9 yp1_9 xp1_9; have yp0_10 : w10.cell? ⟨w2.heap.size, 0, none⟩ = some (.int .i64 7) := cp10 0 (by simp); have xp0_10 : w10.frozen? ⟨w2.heap.size, 0, none⟩ = false := zp10 0 (by simp); have yp1_10 : w10.cell? ⟨w2.heap.size, 1, none⟩ = some (.int .i64 10000) := cp10 1 (by simp); have xp1_10 : w10.frozen? ⟨w2.heap.size, 1, none⟩ = false := zp10 1 (by simp); have lp10 := World.block_lt_of_cell? _ _ yp0_10; dsimp only at lp10; clear hb10)
    | (go_at_call 35; (with_reducible refine (exLag _).mono ?_); rintro e w11 ⟨rfl, hb11⟩; have cp11 := cp10.later hb11; have zp11 := zp10.later cp10 hb11; have ca11 := ca10.later hb11; have za11 := za10.later ca10 hb11; have b11 : Hid (Below w.heap.size w w11) := Lib.hid (below_then b10.out hb11); have s11' := hb11.size; clear yp0_10 xp0_10 yp1_10 xp1_10; have yp0_11 : w11.cell? ⟨w2.heap.size, 0, none⟩ = some (.int .i64 7) := cp11 0 (by simp); have xp0_11 : w11.frozen? ⟨w2.heap.size, 0, none⟩ = false := zp11 0 (by simp); have yp1_11 : w11.cell? ⟨w2.heap.size, 1, none⟩ = some (.int .i64 10000) := cp11 1 (by simp); have xp1_11 : w11.frozen? ⟨w2.heap.size, 1, none⟩ = false := zp11 1 (by simp); have lp11 := World.block_lt_of_cell? _ _ yp0_11; dsimp only at lp11; clear hb11)
    | (go_at_call 39; (with_reducible refine (exGate _).mono ?_); rintro e w12 ⟨rfl, hb12⟩; have cp12 := cp11.later hb12; have zp12 := zp11.later cp11 hb12; have ca12 := ca11.later hb12; have za12 := za11.later ca11 hb12; have b12 : Hid (Below w.heap.size w w12) := Lib.hid (below_then b11.out hb12); have s12' := hb12.size; clear yp0_11 xp0_11 yp1_11 xp1_11; have yp0_12 : w12.cell? ⟨w2.heap.size, 0, none⟩ = some (.int .i64 7) := cp12 0 (by simp); have xp0_12 : w12.frozen? ⟨w2.heap.size, 0, none⟩ = false := zp12 0 (by simp); have yp1_12 : w12.cell? ⟨w2.heap.size, 1, none⟩ = some (.int .i64 10000) := cp12 1 (by simp); have xp1_12 : w12.frozen? ⟨w2.heap.size, 1, none⟩ = false := zp12 1 (by simp); have lp12 := World.block_lt_of_cell? _ _ yp0_12; dsimp only at lp12; clear hb12)
    | ((with_reducible refine wpList_alloc_lit rfl 63 rfl 7 rfl #[.int .i64 0, .int .i64 0] zeroG ?_); intro w13 N13; have s13 := N13.size; have cp13 := cp12.later N13.below; have zp13 := zp12.later cp12 N13.below; have ca13 := ca12.later N13.below; have za13 := za12.later ca12 N13.below; have cg13 := N13.at'; have zg13 := N13.free; have b13 : Hid (Below w.heap.size w w13) := Lib.hid (below_then b12.out N13.below); clear N13; have s13' := Nat.le_of_eq s13.symm; clear yp0_12 xp0_12 yp1_12 xp1_12; have yp0_13 : w13.cell? ⟨w2.heap.size, 0, none⟩ = some (.int .i64 7) := cp13 0 (by simp); have xp0_13 : w13.frozen? ⟨w2.heap.size, 0, none⟩ = false := zp13 0 (by simp); have yp1_13 : w13.cell? ⟨w2.heap.size, 1, none⟩ = some (.int .i64 10000) := cp13 1 (by simp); have xp1_13 : w13.frozen? ⟨w2.heap.size, 1, none⟩ = false := zp13 1 (by simp); have yg0_13 : w13.cell? ⟨w12.heap.size, 0, none⟩ = some (.int .i64 0) := cg13 0 (by simp); have xg0_13 : w13.frozen? ⟨w12.heap.size, 0, none⟩ = false := zg13 0 (by simp); have yg1_13 : w13.cell? ⟨w12.heap.size, 1, none⟩ = some (.int .i64 0) := cg13 1 (by simp); have xg1_13 : w13.frozen? ⟨w12.heap.size, 1, none⟩ = false := zg13 1 (by simp))
    | ((with_reducible refine wpList_store_lit rfl 63 _ _ rfl _ _ _ #[.int .i64 1, .int .i64 3] rfl rfl cg13 zg13 rfl (oneP _ _ _ rfl) infoG ?_); intro w14 S14 B14 cg14 zg14 O14 P14; have cp14 := O14 _ _ _ (by omega) cp13; have zp14 := P14 _ _ zp13; have ca14 := O14 _ _ _ (by omega) ca13; have za14 := P14 _ _ za13; have b14 : Hid (Below w.heap.size w w14) := Lib.hid (B14 _ _ (by omega) b13.out); have s14' := Nat.le_of_eq S14.symm; clear yp0_13 xp0_13 yp1_13 xp1_13; clear yg0_13 xg0_13 yg1_13 xg1_13; have yp0_14 : w14.cell? ⟨w2.heap.size, 0, none⟩ = some (.int .i64 7) := cp14 0 (by simp); have xp0_14 : w14.frozen? ⟨w2.heap.size, 0, none⟩ = false := zp14 0 (by simp); have yp1_14 : w14.cell? ⟨w2.heap.size, 1, none⟩ = some (.int .i64 10000) := cp14 1 (by simp); have xp1_14 : w14.frozen? ⟨w2.heap.size, 1, none⟩ = false := zp14 1 (by simp); have yg0_14 : w14.cell? ⟨w12.heap.size, 0, none⟩ = some (.int .i64 1) := cg14 0 (by simp); have xg0_14 : w14.frozen? ⟨w12.heap.size, 0, none⟩ = false := zg14 0 (by simp); have yg1_14 : w14.cell? ⟨w12.heap.size, 1, none⟩ = some (.int .i64 3) := cg14 1 (by simp); have xg1_14 : w14.frozen? ⟨w12.heap.size, 1, none⟩ = false := zg14 1 (by simp); clear S14 B14 O14 P14))
  have ya9 : w14.cell? ⟨w6.heap.size, 9, none⟩ = some (.complex .f32 (fs 0) (fs 100)) := ca14 9 (by decide)
  have ya10 : w14.cell? ⟨w6.heap.size, 10, none⟩ = some (.complex .f32 (fs 100) (fs 0)) := ca14 10 (by decide)
  have bb := b14.out
  go_region_held3 (fun w' => w'.cell? ⟨w2.heap.size, 0, none⟩ = some (.int .i64 7) ∧ w'.cell? ⟨w2.heap.size, 1, none⟩ = some (.int .i64 10000) ∧ w'.cell? ⟨w6.heap.size, 9, none⟩ = some (.complex .f32 (fs 0) (fs 100)) ∧ w'.cell? ⟨w6.heap.size, 10, none⟩ = some (.complex .f32 (fs 100) (fs 0)) ∧ w'.cell? ⟨w12.heap.size, 0, none⟩ = some (.int .i64 1) ∧ w'.cell? ⟨w12.heap.size, 1, none⟩ = some (.int .i64 3) ∧ Below w.heap.size w w') (((go_split_ands; (repeat' apply And.intro) <;> first | (with_reducible assumption) | exact cell_alloc_later (by with_reducible assumption) _ | exact cell_drew' (by with_reducible assumption) | exact cell_drew' (cell_alloc_later (by with_reducible assumption) _) | exact cell_later (by with_reducible assumption) (by with_reducible assumption) | exact below_then (by with_reducible assumption) (by with_reducible assumption) | exact below_alloc_top (by with_reducible assumption) _ | exact Below.drew (by with_reducible assumption) | exact Below.drew (below_alloc_top (by with_reducible assumption) _))))
    (first
      | (go_at_call 49; (with_reducible refine (sample0_any _).mono ?_); rintro e w' ⟨rfl, rfl⟩)
      | (go_at_call 49; (with_reducible refine (sample100_any _).mono ?_); rintro e w' ⟨rfl, rfl⟩)
      | (go_split_ands; go_at_call 29; refine (exSame _ _ _ _ _ _ (by with_reducible assumption) (by with_reducible assumption) (by simp [go_sem]) (by simp [go_sem])).mono ?_; rintro e w' ⟨rfl, hb⟩))
  go_split_ands
  have BB : Below w.heap.size w w' := by with_reducible assumption
  go_wp2
  go_ret
  exact ⟨rfl, BB⟩
end Go.Proofs.Ytoieemgdkpnbfaa
