/- the gate and the first square of the reference -/
import Derived.Test.YtoieemgdkpnbfaaFlN
import Derived.Test.YtoieemgdkpnbfaaFl14
namespace Go.Proofs.Ytoieemgdkpnbfaa
open Go.RowKit RayM
set_option linter.unusedSimpArgs false
set_option linter.unusedVariables false
theorem gb_true (n l m : Int) (h : l ≤ n ∧ n ≤ m) (w : World) : Calls Try.prog 17 #[.int .i64 n, .int .i64 l, .int .i64 m] w fun e w' => e = .returned (.bool true) ∧ w = w' := by
  have := bwithin_any n l m w
  rwa [show inB n l m = true by unfold inB; simp; omega] at this
theorem gb_false (n l m : Int) (h : ¬ (l ≤ n ∧ n ≤ m)) (w : World) : Calls Try.prog 17 #[.int .i64 n, .int .i64 l, .int .i64 m] w fun e w' => e = .returned (.bool false) ∧ w = w' := by
  have := bwithin_any n l m w
  rwa [show inB n l m = false by unfold inB; simp; omega] at this
theorem unl_t (n l m : Int) (h : l ≤ n ∧ n ≤ m) (e : Int) : unl (inB n l m) e = 0 := by
  have : inB n l m = true := by unfold inB; simp; omega
  rw [this]; rfl
theorem unl_f (n l m : Int) (h : ¬ (l ≤ n ∧ n ≤ m)) (e : Int) : unl (inB n l m) e = e := by
  have : inB n l m = false := by unfold inB; simp; omega
  rw [this]; rfl
set_option maxRecDepth 100000 in
set_option maxHeartbeats 1000000 in
theorem rGateErr_any (f t : Int) (w : World) :
    Calls Try.prog 32 #[.agg #[.int .i64 f, .int .i64 t]] w fun e w' => e = .returned (.int .i64 (gaE f t)) ∧ Below w.heap.size w w' := by
  by_cases hf : 0 ≤ f ∧ f ≤ 60
  · have HF := Lib.hid (fun w => gb_true f 0 60 hf w)
    by_cases ht : 0 ≤ t ∧ t ≤ 60
    · have HT := Lib.hid (fun w => gb_true t 0 60 ht w)
      by_cases ho : f ≤ t
      · have o1 : ¬ t < f := by omega
        rw [show gaE f t = 0 from by unfold gaE; rw [unl_t _ _ _ hf, unl_t _ _ _ ht, decide_eq_true ho]; rfl]
        go_enter Try.func32, Try.ntmps32
        go_wp2_with (first
          | ((with_reducible refine wpList_box_lit rfl 63 _ rfl 1 rfl #[.int .i64 f, .int .i64 t] rfl ?_); intro w1 N1; have s1 := N1.size; have cg1 := N1.at'; have zg1 := N1.free; have b1 : Hid (Below w.heap.size w w1) := Lib.hid N1.below; clear N1; have yg0_1 : w1.cell? ⟨w.heap.size, 0, none⟩ = some (.int .i64 f) := cg1 0 (by simp); have xg0_1 : w1.frozen? ⟨w.heap.size, 0, none⟩ = false := zg1 0 (by simp); have yg1_1 : w1.cell? ⟨w.heap.size, 1, none⟩ = some (.int .i64 t) := cg1 1 (by simp); have xg1_1 : w1.frozen? ⟨w.heap.size, 1, none⟩ = false := zg1 1 (by simp))
          | (go_at_call 17; (with_reducible refine (HF.out _).mono ?_); rintro e w' ⟨rfl, rfl⟩)
          | (go_at_call 17; (with_reducible refine (HT.out _).mono ?_); rintro e w' ⟨rfl, rfl⟩))
        go_ret
        exact ⟨rfl, b1.out⟩
      · have o1 : t < f := by omega
        rw [show gaE f t = 9 from by unfold gaE; rw [unl_t _ _ _ hf, unl_t _ _ _ ht, decide_eq_false ho]; rfl]
        go_enter Try.func32, Try.ntmps32
        go_wp2_with (first
          | ((with_reducible refine wpList_box_lit rfl 63 _ rfl 1 rfl #[.int .i64 f, .int .i64 t] rfl ?_); intro w1 N1; have s1 := N1.size; have cg1 := N1.at'; have zg1 := N1.free; have b1 : Hid (Below w.heap.size w w1) := Lib.hid N1.below; clear N1; have yg0_1 : w1.cell? ⟨w.heap.size, 0, none⟩ = some (.int .i64 f) := cg1 0 (by simp); have xg0_1 : w1.frozen? ⟨w.heap.size, 0, none⟩ = false := zg1 0 (by simp); have yg1_1 : w1.cell? ⟨w.heap.size, 1, none⟩ = some (.int .i64 t) := cg1 1 (by simp); have xg1_1 : w1.frozen? ⟨w.heap.size, 1, none⟩ = false := zg1 1 (by simp))
          | (go_at_call 17; (with_reducible refine (HF.out _).mono ?_); rintro e w' ⟨rfl, rfl⟩)
          | (go_at_call 17; (with_reducible refine (HT.out _).mono ?_); rintro e w' ⟨rfl, rfl⟩))
        go_ret
        exact ⟨rfl, b1.out⟩
    · have HT := Lib.hid (fun w => gb_false t 0 60 ht w)
      rw [show gaE f t = 2 from by unfold gaE; rw [unl_t _ _ _ hf, unl_f _ _ _ ht]; rfl]
      go_enter Try.func32, Try.ntmps32
      go_wp2_with (first
        | ((with_reducible refine wpList_box_lit rfl 63 _ rfl 1 rfl #[.int .i64 f, .int .i64 t] rfl ?_); intro w1 N1; have s1 := N1.size; have cg1 := N1.at'; have zg1 := N1.free; have b1 : Hid (Below w.heap.size w w1) := Lib.hid N1.below; clear N1; have yg0_1 : w1.cell? ⟨w.heap.size, 0, none⟩ = some (.int .i64 f) := cg1 0 (by simp); have xg0_1 : w1.frozen? ⟨w.heap.size, 0, none⟩ = false := zg1 0 (by simp); have yg1_1 : w1.cell? ⟨w.heap.size, 1, none⟩ = some (.int .i64 t) := cg1 1 (by simp); have xg1_1 : w1.frozen? ⟨w.heap.size, 1, none⟩ = false := zg1 1 (by simp))
        | (go_at_call 17; (with_reducible refine (HF.out _).mono ?_); rintro e w' ⟨rfl, rfl⟩)
        | (go_at_call 17; (with_reducible refine (HT.out _).mono ?_); rintro e w' ⟨rfl, rfl⟩))
      go_ret
      exact ⟨rfl, b1.out⟩
  · have HF := Lib.hid (fun w => gb_false f 0 60 hf w)
    rw [show gaE f t = 2 from by unfold gaE; rw [unl_f _ _ _ hf]; rfl]
    go_enter Try.func32, Try.ntmps32
    go_wp2_with (first
      | ((with_reducible refine wpList_box_lit rfl 63 _ rfl 1 rfl #[.int .i64 f, .int .i64 t] rfl ?_); intro w1 N1; have s1 := N1.size; have cg1 := N1.at'; have zg1 := N1.free; have b1 : Hid (Below w.heap.size w w1) := Lib.hid N1.below; clear N1; have yg0_1 : w1.cell? ⟨w.heap.size, 0, none⟩ = some (.int .i64 f) := cg1 0 (by simp); have xg0_1 : w1.frozen? ⟨w.heap.size, 0, none⟩ = false := zg1 0 (by simp); have yg1_1 : w1.cell? ⟨w.heap.size, 1, none⟩ = some (.int .i64 t) := cg1 1 (by simp); have xg1_1 : w1.frozen? ⟨w.heap.size, 1, none⟩ = false := zg1 1 (by simp))
      | (go_at_call 17; (with_reducible refine (HF.out _).mono ?_); rintro e w' ⟨rfl, rfl⟩))
    go_ret
    exact ⟨rfl, b1.out⟩
/-- the first square of a gate that is as great -/
def fnd (s : Nat → Int) (q : Int) : Nat → Nat → Nat × Int
  | _, 0 => (0, 12)
  | k, m + 1 => if q ≤ s k then (k, 0) else fnd s q (k + 1) m
theorem fnd_step (s : Nat → Int) (q : Int) (k n : Nat) (h : k ≤ n) : fnd s q k (n + 1 - k) = if q ≤ s k then (k, 0) else fnd s q (k + 1) (n + 1 - (k + 1)) := by
  rw [show n + 1 - k = (n + 1 - (k + 1)) + 1 by omega]; rfl
theorem fnd_end (s : Nat → Int) (q : Int) (n : Nat) : fnd s q (n + 1) (n + 1 - (n + 1)) = (0, 12) := by rw [Nat.sub_self]; rfl
set_option maxRecDepth 100000 in
set_option maxHeartbeats 1000000 in
theorem rFirstAbove_any (l : Nat → Int) (F T : Nat) (q : Int) (w : World) (hl : ∀ i, i < 64 → -2047 ≤ l i ∧ l i ≤ 2047) (hF : F ≤ T) (hT : T ≤ 60) :
    Calls Try.prog 33 #[.agg (vls 64 (fv l)).toArray, .agg #[.int .i64 (F : Int), .int .i64 (T : Int)], .int .i64 q] w fun e w' => e = .returned (.tuple #[.int .i64 (if q < 0 then 0 else (fnd (sqA l) q F (T + 1 - F)).1 : Nat), .int .i64 (if q < 0 then 2 else (fnd (sqA l) q F (T + 1 - F)).2)]) ∧ Below w.heap.size w w' := by
  have EV := Lib.hid (fun w => rEnvelope_any l w hl)
  by_cases hq : q < 0
  · rw [if_pos hq, if_pos hq]
    go_enter Try.func33, Try.ntmps33
    go_wp2_with (first
      | ((with_reducible refine wpList_box_named rfl 26 _ rfl 3 rfl 64 (fv l) rfl ?_); intro w1 N1; have s1 := N1.size; have ct1 := N1.at'; have zt1 := N1.free; have b1 : Hid (Below w.heap.size w w1) := Lib.hid N1.below; clear N1)
      | ((with_reducible refine wpList_box_lit rfl 63 _ rfl 4 rfl #[.int .i64 (F : Int), .int .i64 (T : Int)] rfl ?_); intro w2 N2; have s2 := N2.size; have ct2 := ct1.later N2.below; have zt2 := zt1.later ct1 N2.below; have cg2 := N2.at'; have zg2 := N2.free; have b2 : Hid (Below w.heap.size w w2) := Lib.hid (below_then b1.out N2.below); clear N2; rw [s1] at s2 cg2 zg2; have yg0_2 : w2.cell? ⟨w.heap.size + 1, 0, none⟩ = some (.int .i64 (F : Int)) := cg2 0 (by simp); have xg0_2 : w2.frozen? ⟨w.heap.size + 1, 0, none⟩ = false := zg2 0 (by simp); have yg1_2 : w2.cell? ⟨w.heap.size + 1, 1, none⟩ = some (.int .i64 (T : Int)) := cg2 1 (by simp); have xg1_2 : w2.frozen? ⟨w.heap.size + 1, 1, none⟩ = false := zg2 1 (by simp)))
    go_ret2
    exact ⟨rfl, b2.out⟩
  · rw [if_neg hq, if_neg hq]
    have FS := Lib.hid (fun k h => fnd_step (sqA l) q k T h)
    have FE := Lib.hid (fnd_end (sqA l) q T)
    have hq0 : 0 ≤ q := by omega
    clear hq
    generalize hr : fnd (sqA l) q F (T + 1 - F) = R0
    have HR := Lib.hid hr; clear hr
    go_enter Try.func33, Try.ntmps33
    go_wp2_with (first
      | ((with_reducible refine wpList_box_named rfl 26 _ rfl 3 rfl 64 (fv l) rfl ?_); intro w1 N1; have s1 := N1.size; have ct1 := N1.at'; have zt1 := N1.free; have b1 : Hid (Below w.heap.size w w1) := Lib.hid N1.below; clear N1)
      | ((with_reducible refine wpList_box_lit rfl 63 _ rfl 4 rfl #[.int .i64 (F : Int), .int .i64 (T : Int)] rfl ?_); intro w2 N2; have s2 := N2.size; have ct2 := ct1.later N2.below; have zt2 := zt1.later ct1 N2.below; have cg2 := N2.at'; have zg2 := N2.free; have b2 : Hid (Below w.heap.size w w2) := Lib.hid (below_then b1.out N2.below); clear N2; rw [s1] at s2 cg2 zg2; have yg0_2 : w2.cell? ⟨w.heap.size + 1, 0, none⟩ = some (.int .i64 (F : Int)) := cg2 0 (by simp); have xg0_2 : w2.frozen? ⟨w.heap.size + 1, 0, none⟩ = false := zg2 0 (by simp); have yg1_2 : w2.cell? ⟨w.heap.size + 1, 1, none⟩ = some (.int .i64 (T : Int)) := cg2 1 (by simp); have xg1_2 : w2.frozen? ⟨w.heap.size + 1, 1, none⟩ = false := zg2 1 (by simp))
      | (with_reducible refine wpList_load_at rfl 26 _ rfl _ 64 (fv l) rfl ct2 _ Try.underlying26 rfl infoV ?_)
      | (go_at_call 28; (with_reducible refine (EV.out _).mono ?_); rintro e w3 ⟨rfl, hb3⟩; have ct3 := ct2.later hb3; have zt3 := zt2.later ct2 hb3; have cg3 := cg2.later hb3; have zg3 := zg2.later cg2 hb3; have b3 : Hid (Below w.heap.size w w3) := Lib.hid (below_then b2.out hb3); have s3' := hb3.size; rw [s2] at s3'; clear yg0_2 xg0_2 yg1_2 xg1_2; have yg0_3 : w3.cell? ⟨w.heap.size + 1, 0, none⟩ = some (.int .i64 (F : Int)) := cg3 0 (by simp); have xg0_3 : w3.frozen? ⟨w.heap.size + 1, 0, none⟩ = false := zg3 0 (by simp); have yg1_3 : w3.cell? ⟨w.heap.size + 1, 1, none⟩ = some (.int .i64 (T : Int)) := cg3 1 (by simp); have xg1_3 : w3.frozen? ⟨w.heap.size + 1, 1, none⟩ = false := zg3 1 (by simp); have lg3 := World.block_lt_of_cell? _ _ yg0_3; dsimp only at lg3; clear hb3)
      | ((with_reducible refine wpList_alloc_named rfl 52 rfl 8 rfl 61 (ziv) zeroI ?_); intro w4 N4; have s4 := N4.size; have ct4 := ct3.later N4.below; have zt4 := zt3.later ct3 N4.below; have cg4 := cg3.later N4.below; have zg4 := zg3.later cg3 N4.below; have cs4 := N4.at'; have zs4 := N4.free; have b4 : Hid (Below w.heap.size w w4) := Lib.hid (below_then b3.out N4.below); clear N4; have s4' := Nat.le_of_eq s4.symm; clear yg0_3 xg0_3 yg1_3 xg1_3; have yg0_4 : w4.cell? ⟨w.heap.size + 1, 0, none⟩ = some (.int .i64 (F : Int)) := cg4 0 (by simp); have xg0_4 : w4.frozen? ⟨w.heap.size + 1, 0, none⟩ = false := zg4 0 (by simp); have yg1_4 : w4.cell? ⟨w.heap.size + 1, 1, none⟩ = some (.int .i64 (T : Int)) := cg4 1 (by simp); have xg1_4 : w4.frozen? ⟨w.heap.size + 1, 1, none⟩ = false := zg4 1 (by simp))
      | ((with_reducible refine wpList_store_at rfl 52 _ _ rfl _ 61 _ (sqv l) rfl rfl cs4 zs4 (fun _ _ => rfl) infoI ?_); intro w5 S5 B5 cs5 zs5 O5 P5; have ct5 := O5 _ _ _ (by omega) ct4; have zt5 := P5 _ _ zt4; have cg5 := O5 _ _ _ (by omega) cg4; have zg5 := P5 _ _ zg4; have b5 : Hid (Below w.heap.size w w5) := Lib.hid (B5 _ _ (by omega) b4.out); have s5' := Nat.le_of_eq S5.symm; clear yg0_4 xg0_4 yg1_4 xg1_4; have yg0_5 : w5.cell? ⟨w.heap.size + 1, 0, none⟩ = some (.int .i64 (F : Int)) := cg5 0 (by simp); have xg0_5 : w5.frozen? ⟨w.heap.size + 1, 0, none⟩ = false := zg5 0 (by simp); have yg1_5 : w5.cell? ⟨w.heap.size + 1, 1, none⟩ = some (.int .i64 (T : Int)) := cg5 1 (by simp); have xg1_5 : w5.frozen? ⟨w.heap.size + 1, 1, none⟩ = false := zg5 1 (by simp); clear S5 B5 O5 P5))
    go_loopw [9] (fun s9 wr => ∃ k : Nat, F ≤ k ∧ k ≤ T + 1 ∧ s9 = .int .i64 (k : Int) ∧ fnd (sqA l) q k (T + 1 - k) = R0 ∧ VAt (w3.heap.size) 61 (sqv l) wr ∧ wr.cell? ⟨w.heap.size + 1, 1, none⟩ = some (.int .i64 (T : Int)) ∧ Hid (Below w.heap.size w wr)) (fun s9 _ => T + 1 - (intOf s9).toNat)
    case atStart => exact ⟨F, by omega, by omega, rfl, HR.out, cs5, yg1_5, b5⟩
    case round =>
      obtain ⟨k, hk0, hk, rfl, hR, sk, gk, bk⟩ := hrel
      have HK := Lib.hid hR; clear hR
      have j0 : (0 : Int) ≤ (k : Int) := Int.natCast_nonneg _
      by_cases hlt : k ≤ T
      · have j1 : (k : Int) ≤ (T : Int) := by omega
        have j2 : (k : Int) < 61 := by omega
        have q0 : wr.cell? ⟨w3.heap.size, k, none⟩ = some (.int .i64 (sqA l k)) := sk k (by omega)
        have ST := Lib.hid (FS.out k hlt)
        generalize sqA l k = S at *
        by_cases hg : q ≤ S
        · have EE : Hid (R0 = (k, 0)) := by show _ = _; rw [← HK.out, ST.out, if_pos hg]
          go_wp2
          go_ret2
          exact ⟨by rw [EE.out]; rfl, bk.out⟩
        · have EE : Hid (fnd (sqA l) q (k + 1) (T + 1 - (k + 1)) = R0) := by show _ = _; rw [← HK.out, ST.out, if_neg hg]
          have hg2 : S < q := by omega
          go_wp2
          go_roundw
          case rel => exact ⟨k + 1, by omega, by omega, by go_num, EE.out, sk, gk, bk⟩
          case measure => simp [intOf]; omega
      · obtain rfl : k = T + 1 := by omega
        have EE : Hid (R0 = (0, 12)) := by show _ = _; rw [← HK.out, FE.out]
        have j1 : ¬ ((T : Int) + 1 ≤ (T : Int)) := by omega
        go_wp2
        go_ret2
        exact ⟨by rw [EE.out]; rfl, bk.out⟩
end Go.Proofs.Ytoieemgdkpnbfaa
