/- plain: a trace with 0 in place of -0 -/
import Derived.Test.YtoieemgdkpnbfaaFlL
namespace Go.Proofs.Ytoieemgdkpnbfaa
open Go.RowKit RayM
set_option linter.unusedSimpArgs false
set_option linter.unusedVariables false

theorem fs_zero : fs 0 = 0 := by decide +kernel
theorem eq_fs (a b : Int) (ha : a.natAbs < 2 ^ 24) (hb : b.natAbs < 2 ^ 24) : (FloatKind.f32.format.order (fs a) (fs b) == some .eq) = decide (a = b) := by
  show (Ieee.single.order (Fl.fl Ieee.single a) (Fl.fl Ieee.single b) == _) = _
  rw [Fl.order_fl Fl.good32 a b ha hb]
  rcases Int.lt_trichotomy a b with h | h | h
  · rw [Int.compare_eq_lt.2 h]; simp; omega
  · rw [Int.compare_eq_eq.2 h]; simp; omega
  · rw [Int.compare_eq_gt.2 h]; simp; omega
theorem eq_fs0 (a : Int) (ha : a.natAbs < 2 ^ 24) : (FloatKind.f32.format.order (fs a) 0 == some .eq) = decide (a = 0) := by
  have := eq_fs a 0 ha (by decide)
  rwa [fs_zero] at this
theorem fv_same (l : Nat → Int) (k : Nat) (h : l k = 0) : ∀ i, i < 64 → upd (fv l) k (.float .f32 0) i = fv l i := fun i _ => by
  unfold upd fv
  by_cases e : i = k
  · subst e; rw [if_pos rfl, h, fs_zero]
  · rw [if_neg e]
theorem fv_at (l : Nat → Int) (k : Nat) : fv l (k : Int).toNat = .float .f32 (fs (l k)) := rfl
theorem fv_one (l : Nat → Int) : ∀ i, i < 64 → (fv l i).oneCell' = true := fun i _ => rfl
set_option maxRecDepth 100000 in
set_option maxHeartbeats 1000000 in
theorem plain_any (l : Nat → Int) (hl : Few l) (w : World) :
    Calls Try.prog 53 #[trV l] w fun e w' => e = .returned (trV l) ∧ Below w.heap.size w w' := by
  have HF := Lib.hid hl; clear hl
  unfold trV
  rw [fls_eq]
  have SF := @run_store_float Try.prog
  go_enter Try.func53, Try.ntmps53
  go_wp2_with (first
    | (with_reducible refine wpList_box_named rfl 26 _ rfl 1 rfl 64 (fv l) rfl ?_; intro w0 N0; have s0 := N0.size; have c0 := N0.at'; have z0 := N0.free; have b0 := Lib.hid N0.below; clear N0)
    | (with_reducible refine wpList_alloc_named rfl 26 rfl 2 rfl 64 _ zeroT ?_; intro w1 N1; have s1 := N1.size; have c1 := c0.later N1.below; have z1 := z0.later c0 N1.below; have r1 := N1.at'; have f1 := N1.free; have b1 : Hid (Below w.heap.size w w1) := Lib.hid (below_then b0.out N1.below); clear N1; rw [s0] at s1 r1 f1)
    | (with_reducible refine wpList_load_at rfl 26 _ rfl _ 64 (fv l) rfl c1 _ Try.underlying26 rfl infoV ?_))
  go_loopw [6] (fun s6 wr => ∃ k : Nat, k ≤ 64 ∧ s6 = .int .i64 (k : Int) ∧ VAt w.heap.size 64 (fv l) wr ∧ Fz w.heap.size 64 wr ∧ VAt (w.heap.size + 1) 64 (fv fun _ => 0) wr ∧ Fz (w.heap.size + 1) 64 wr ∧ Hid (Below w.heap.size w wr)) (fun s6 _ => 64 - (intOf s6).toNat)
  case atStart => exact ⟨0, by omega, rfl, c1, z1, r1, f1, b1⟩
  case round =>
    clear c0 z0 b0 c1 z1 r1 f1 b1 s1 s0
    obtain ⟨k, hk, rfl, ck, zk, rk, fk, bk⟩ := hrel
    have j0 : (0 : Int) ≤ (k : Int) := Int.natCast_nonneg _
    by_cases hlt : k < 64
    · have j1 : (k : Int) < 64 := by omega
      have J1 : (k : Int) < ((64 : Nat) : Int) := by omega
      have q0 := ck k hlt
      have q1 := zk k hlt
      have hq := eq_fs0 (l k) (Nat.lt_trans (HF.out k hlt) (by decide))
      by_cases h0 : l k = 0
      · have hd : decide (l k = 0) = true := by simpa using h0
        rw [hd] at hq
        have HZ := Lib.hid h0; clear h0 hd
        go_wp2_with (with_reducible refine wpList_index_any rfl 26 _ _ rfl 64 (fv l) (k : Int) rfl rfl 24 Try.underlying26 _ Try.underlying24 rfl info1 j0 J1 (.float .f32 (fs (l k))) (fv_at l k) ?_)
        go_roundw
        case rel => exact ⟨k + 1, by omega, by go_num, (ck.set k hlt _).congr (fv_same l k HZ.out), zk.set _ _, rk.other _ _ (by omega) _, fk.set _ _, Lib.hid (bk.out.setCell (by dsimp only; omega) _)⟩
        case measure => simp [intOf]; omega
      · have hd : decide (l k = 0) = false := by simpa using h0
        rw [hd] at hq
        clear h0 hd
        go_wp2_with (with_reducible refine wpList_index_any rfl 26 _ _ rfl 64 (fv l) (k : Int) rfl rfl 24 Try.underlying26 _ Try.underlying24 rfl info1 j0 J1 (.float .f32 (fs (l k))) (fv_at l k) ?_)
        go_roundw
        case rel => exact ⟨k + 1, by omega, by go_num, ck, zk, rk, fk, bk⟩
        case measure => simp [intOf]; omega
    · obtain rfl : k = 64 := by omega
      go_wp2_with (first
        | (with_reducible refine wpList_load_at rfl 26 _ rfl _ 64 (fv l) rfl ck _ Try.underlying26 rfl infoV ?_)
        | (with_reducible refine wpList_store_at rfl 26 _ _ rfl _ 64 _ (fv l) rfl rfl rk fk (fv_one l) infoV ?_; intro w9 S9 B9 C9 Z9 O9 P9))
      refine bodyPost_ret (v := .agg (vls 64 (fv l)).toArray) ?_ rfl ⟨rfl, B9 _ _ (by omega) bk.out⟩
      have hld := load_var_at 26 _ 64 (fv l) C9 _ Try.underlying26 rfl infoV
      simp [results, Try.results53, asAddr, Act.put, Result.andThen, hld]
end Go.Proofs.Ytoieemgdkpnbfaa
