/- the analytic samples of a trace -/
import Derived.Test.YtoieemgdkpnbfaaFl4
namespace Go.Proofs.Ytoieemgdkpnbfaa
open Go.RowKit RayM
set_option linter.unusedSimpArgs false
set_option linter.unusedVariables false

theorem traceErr_v (l : Nat → Int) (hl : Few l) (w : World) :
    Calls Try.prog 51 #[.agg (vls 64 (fv l)).toArray] w fun e w' => e = .returned (.int .i64 (ctE l)) ∧ Below w.heap.size w w' := traceErr_any l hl w
theorem plain_v (l : Nat → Int) (hl : Few l) (w : World) :
    Calls Try.prog 53 #[.agg (vls 64 (fv l)).toArray] w fun e w' => e = .returned (.agg (vls 64 (fv l)).toArray) ∧ Below w.heap.size w w' := plain_any l hl w
/-- an analytic sample, none yet -/
def anv (l : Nat → Int) (k : Nat) : Value := .complex .f32 (fs (l k - l (k + 2))) (fs (l (k + 1) - l (k + 3)))
def zcv (_ : Nat) : Value := .complex .f32 0 0
def anS (l : Nat → Int) (k i : Nat) : Value := if i < k then anv l i else zcv i
theorem anS_zero (l : Nat → Int) : anS l 0 = zcv := by funext i; simp [anS]
theorem anS_step (l : Nat → Int) (k : Nat) (v : Value) (h : v = anv l k) : ∀ i, i < 61 → upd (anS l k) k v i = anS l (k + 1) i := fun i _ => by
  unfold upd anS
  by_cases e : i = k
  · subst e; rw [if_pos rfl, if_pos (by omega), h]
  · rw [if_neg e]
    by_cases e2 : i < k
    · rw [if_pos e2, if_pos (by omega)]
    · rw [if_neg e2, if_neg (by omega)]
theorem anS_all (l : Nat → Int) : ∀ i, i < 61 → anS l 61 i = anv l i := fun i hi => by unfold anS; rw [if_pos hi]
theorem anS_one (l : Nat → Int) (k : Nat) : ∀ i, i < 61 → (anS l k i).oneCell' = true := fun i _ => by unfold anS anv zcv; split <;> rfl
theorem zeroC : (Try.prog.info? 49).map (fun i => (i.zero, i.size)) = some (some (.agg (vls 61 zcv).toArray), 61) := by kernel_rfl
theorem infoC : (Try.prog.info? 49).map (·.size) = some 61 := by kernel_rfl
theorem sub_run (a b : Int) (ha : a.natAbs < 8192) (hb : b.natAbs < 8192) (w : World) : (binOp .sub 24 (.float .f32 (fs a)) (.float .f32 (fs b))).run Try.prog w = .ok (.float .f32 (fs (a - b))) w :=
  run_float_arith w .sub _ .f32 _ _ _ (Fl.sub_fl Fl.good32 a b (Nat.lt_trans ha (by decide)) (Nat.lt_trans hb (by decide)) (Nat.lt_of_lt_of_le (show (a - b).natAbs < 16384 by omega) (by decide)))
set_option maxRecDepth 100000 in
set_option maxHeartbeats 1000000 in
theorem analytic_any (l : Nat → Int) (hl : Few l) (w : World) :
    Calls Try.prog 25 #[.agg (vls 64 (fv l)).toArray] w fun e w' => e = .returned (.tuple #[.agg (vls 61 (if ctE l = 0 then anv l else zcv)).toArray, .int .i64 (ctE l)]) ∧ Below w.heap.size w w' := by
  have HE := Lib.hid (fun w => traceErr_v l hl w)
  have HP := Lib.hid (fun w => plain_v l hl w)
  have HF := Lib.hid hl; clear hl
  have SC := @run_store_complex Try.prog
  generalize hE : ctE l = E0 at *
  have EQ := Lib.hid hE; clear hE
  by_cases hz : E0 = 0
  · subst hz
    rw [if_pos rfl]
    go_enter Try.func25, Try.ntmps25
    go_wp2_with (first
      | (with_reducible refine wpList_box_named rfl 26 _ rfl 1 rfl 64 (fv l) rfl ?_; intro w0 N0; have s0 := N0.size; have c0 := N0.at'; have z0 := N0.free; have b0 := Lib.hid N0.below; clear N0)
      | (with_reducible refine wpList_alloc_named rfl 49 rfl 2 rfl 61 _ zeroC ?_; intro w1 N1; have s1 := N1.size; have c1 := c0.later N1.below; have z1 := z0.later c0 N1.below; have r1 := N1.at'; have f1 := N1.free; have b1 : Hid (Below w.heap.size w w1) := Lib.hid (below_then b0.out N1.below); clear N1; rw [s0] at s1 r1 f1)
      | (with_reducible refine wpList_alloc_named rfl 49 rfl 4 rfl 61 _ zeroC ?_; intro w2 N2; have s2 := N2.size; have c2 := c1.later N2.below; have z2 := z1.later c1 N2.below; have r2 := r1.later N2.below; have f2 := f1.later r1 N2.below; have a2 := N2.at'; have g2 := N2.free; have b2 : Hid (Below w.heap.size w w2) := Lib.hid (below_then b1.out N2.below); clear N2; rw [s1] at s2 a2 g2)
      | (with_reducible refine wpList_load_at rfl 26 _ rfl _ 64 (fv l) rfl c2 _ Try.underlying26 rfl infoV ?_)
      | (go_at_call 51; (with_reducible refine (HE.out _).mono ?_); rintro e w3 ⟨rfl, hb3⟩; have c3 := c2.later hb3; have z3 := z2.later c2 hb3; have r3 := r2.later hb3; have f3 := f2.later r2 hb3; have a3 := a2.later hb3; have g3 := g2.later a2 hb3; have b3 : Hid (Below w.heap.size w w3) := Lib.hid (below_then b2.out hb3); have s3 := hb3.size; rw [s2] at s3; clear hb3)
      | (with_reducible refine wpList_load_at rfl 26 _ rfl _ 64 (fv l) rfl c3 _ Try.underlying26 rfl infoV ?_)
      | (go_at_call 53; (with_reducible refine (HP.out _).mono ?_); rintro e w4 ⟨rfl, hb4⟩; have c4 := c3.later hb4; have z4 := z3.later c3 hb4; have r4 := r3.later hb4; have f4 := f3.later r3 hb4; have a4 := a3.later hb4; have g4 := g3.later a3 hb4; have b4 : Hid (Below w.heap.size w w4) := Lib.hid (below_then b3.out hb4); have s4 := hb4.size; clear hb4)
      | (with_reducible refine wpList_store_at rfl 26 _ _ rfl _ 64 _ (fv l) rfl rfl c4 z4 (fv_one l) infoV ?_; intro w5 S5 B5 c5 z5 O5 P5; have r5 := O5 _ _ _ (by omega) r4; have f5 := P5 _ _ f4; have a5 := O5 _ _ _ (by omega) a4; have g5 := P5 _ _ g4; have b5 : Hid (Below w.heap.size w w5) := Lib.hid (B5 _ _ (by omega) b4.out); clear B5 O5 P5))
    rw [← anS_zero l] at a5
    go_loopw [15] (fun s15 wr => ∃ k : Nat, k ≤ 61 ∧ s15 = .int .i64 (k : Int) ∧ VAt w.heap.size 64 (fv l) wr ∧ VAt (w.heap.size + 1) 61 zcv wr ∧ Fz (w.heap.size + 1) 61 wr ∧ VAt (w.heap.size + 1 + 1) 61 (anS l k) wr ∧ Fz (w.heap.size + 1 + 1) 61 wr ∧ Hid (Below w.heap.size w wr)) (fun s15 _ => 61 - (intOf s15).toNat)
    case atStart => exact ⟨0, by omega, rfl, c5, r5, f5, a5, g5, b5⟩
    case round =>
      clear s0 c0 z0 b0 s1 c1 z1 r1 f1 b1 s2 c2 z2 r2 f2 a2 g2 b2 s3 c3 z3 r3 f3 a3 g3 b3 s4 c4 z4 r4 f4 a4 g4 b4 S5 c5 z5 r5 f5 a5 g5 b5 HP HE
      obtain ⟨k, hk, rfl, ck, rk, fk, ak, gk, bk⟩ := hrel
      have j0 : (0 : Int) ≤ (k : Int) := Int.natCast_nonneg _
      by_cases hlt : k < 61
      · have j1 : (k : Int) < 61 := by omega
        have q0 : wr.cell? ⟨w.heap.size, k, none⟩ = some (.float .f32 (fs (l k))) := ck k (by omega)
        have q1 : wr.cell? ⟨w.heap.size, k + 1, none⟩ = some (.float .f32 (fs (l (k + 1)))) := ck (k + 1) (by omega)
        have q2 : wr.cell? ⟨w.heap.size, k + 2, none⟩ = some (.float .f32 (fs (l (k + 2)))) := ck (k + 2) (by omega)
        have q3 : wr.cell? ⟨w.heap.size, k + 3, none⟩ = some (.float .f32 (fs (l (k + 3)))) := ck (k + 3) (by omega)
        have y0 := ak k hlt
        have y1 := gk k hlt
        have e1 := sub_run (l k) (l (k + 2)) (HF.out k (by omega)) (HF.out (k + 2) (by omega))
        have e2 := sub_run (l (k + 1)) (l (k + 3)) (HF.out (k + 1) (by omega)) (HF.out (k + 3) (by omega))
        go_wp2
        go_region
        go_wp2
        go_roundw
        case rel => exact ⟨k + 1, by omega, by go_num, (ck.other _ _ (by omega) _).drew, (rk.other _ _ (by omega) _).drew, (fk.set _ _).drew, ((ak.set k hlt _).congr (anS_step l k _ rfl)).drew, (gk.set _ _).drew, Lib.hid (bk.out.setCell (by dsimp only; omega) _).drew⟩
        case measure => simp [intOf]; omega
      · obtain rfl : k = 61 := by omega
        have al := ak.congr (anS_all l)
        clear ak
        go_wp2_with (first
          | (with_reducible refine wpList_load_at rfl 49 _ rfl _ 61 (anv l) rfl al _ Try.underlying49 rfl infoC ?_)
          | (with_reducible refine wpList_store_at rfl 49 _ _ rfl _ 61 _ (anv l) rfl rfl rk fk (fun _ _ => rfl) infoC ?_; intro w9 S9 B9 C9 Z9 O9 P9))
        refine bodyPost_ret (v := .tuple #[.agg (vls 61 (anv l)).toArray, .int .i64 0]) ?_ rfl ⟨rfl, B9 _ _ (by omega) bk.out⟩
        have hld := load_var_at 49 _ 61 (anv l) C9 _ Try.underlying49 rfl infoC
        simp [results, Try.results25, asAddr, Act.put, Result.andThen, hld]
  · have nz : (E0 != 0) = true := by simpa using hz
    rw [if_neg hz]
    clear hz
    go_enter Try.func25, Try.ntmps25
    go_wp2_with (first
      | (with_reducible refine wpList_box_named rfl 26 _ rfl 1 rfl 64 (fv l) rfl ?_; intro w0 N0; have s0 := N0.size; have c0 := N0.at'; have z0 := N0.free; have b0 := Lib.hid N0.below; clear N0)
      | (with_reducible refine wpList_alloc_named rfl 49 rfl 2 rfl 61 _ zeroC ?_; intro w1 N1; have s1 := N1.size; have c1 := c0.later N1.below; have z1 := z0.later c0 N1.below; have r1 := N1.at'; have f1 := N1.free; have b1 : Hid (Below w.heap.size w w1) := Lib.hid (below_then b0.out N1.below); clear N1; rw [s0] at s1 r1 f1)
      | (with_reducible refine wpList_alloc_named rfl 49 rfl 4 rfl 61 _ zeroC ?_; intro w2 N2; have s2 := N2.size; have c2 := c1.later N2.below; have z2 := z1.later c1 N2.below; have r2 := r1.later N2.below; have f2 := f1.later r1 N2.below; have a2 := N2.at'; have g2 := N2.free; have b2 : Hid (Below w.heap.size w w2) := Lib.hid (below_then b1.out N2.below); clear N2; rw [s1] at s2 a2 g2)
      | (with_reducible refine wpList_load_at rfl 26 _ rfl _ 64 (fv l) rfl c2 _ Try.underlying26 rfl infoV ?_)
      | (go_at_call 51; (with_reducible refine (HE.out _).mono ?_); rintro e w3 ⟨rfl, hb3⟩; have c3 := c2.later hb3; have z3 := z2.later c2 hb3; have r3 := r2.later hb3; have f3 := f2.later r2 hb3; have a3 := a2.later hb3; have g3 := g2.later a2 hb3; have b3 : Hid (Below w.heap.size w w3) := Lib.hid (below_then b2.out hb3); have s3 := hb3.size; rw [s2] at s3; clear hb3)
      | (with_reducible refine wpList_load_at rfl 49 _ rfl _ 61 zcv rfl a3 _ Try.underlying49 rfl infoC ?_)
      | (with_reducible refine wpList_store_at rfl 49 _ _ rfl _ 61 _ zcv rfl rfl r3 f3 (fun _ _ => rfl) infoC ?_; intro w9 S9 B9 C9 Z9 O9 P9))
    refine bodyPost_ret (v := .tuple #[.agg (vls 61 zcv).toArray, .int .i64 E0]) ?_ rfl ⟨rfl, B9 _ _ (by omega) b3.out⟩
    have hld := load_var_at 49 _ 61 zcv C9 _ Try.underlying49 rfl infoC
    simp [results, Try.results25, asAddr, Act.put, Result.andThen, hld]
end Go.Proofs.Ytoieemgdkpnbfaa
