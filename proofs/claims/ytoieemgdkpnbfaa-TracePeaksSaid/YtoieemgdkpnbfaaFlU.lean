/- the peak of the reference -/
import Derived.Test.YtoieemgdkpnbfaaFlN
import Derived.Test.YtoieemgdkpnbfaaFl7
import Derived.Deep.DeepCutAuto
namespace Go.Proofs.Ytoieemgdkpnbfaa
open Go.RowKit RayM
set_option linter.unusedSimpArgs false
set_option linter.unusedVariables false
set_option maxRecDepth 100000 in
set_option maxHeartbeats 1000000 in
theorem rPeakIn_any (l : Nat → Int) (F n : Nat) (w : World) (hl : ∀ i, i < 64 → -2047 ≤ l i ∧ l i ≤ 2047) (hn2 : F + n < 61) :
    Calls Try.prog 34 #[.agg (vls 64 (fv l)).toArray, .agg #[.int .i64 (F : Int), .int .i64 ((F + n : Nat) : Int)]] w fun e w' => e = .returned (.agg #[.int .i64 (pk (sqA l) F (n + 1)).1, .int .i64 (pk (sqA l) F (n + 1)).2]) ∧ Below w.heap.size w w' := by
    have EV := Lib.hid (fun w => rEnvelope_any l w hl)
    generalize ht : ((F + n : Nat) : Int) = t
    have HN := Lib.hid ht.symm; clear ht
    have hF : F < 61 := by omega
    have j0 : (0 : Int) ≤ (F : Int) := Int.natCast_nonneg _
    have j1 : (F : Int) < 61 := by omega
    generalize hP0 : pk (sqA l) F (n + 1) = P0
    have HP := Lib.hid hP0.symm; clear hP0
    go_enter Try.func34, Try.ntmps34
    go_wp2_with (first
      | ((with_reducible refine wpList_box_named rfl 26 _ rfl 2 rfl 64 (fv l) rfl ?_); intro w1 N1; have s1 := N1.size; have ct1 := N1.at'; have zt1 := N1.free; have b1 : Hid (Below w.heap.size w w1) := Lib.hid N1.below; clear N1)
      | ((with_reducible refine wpList_box_lit rfl 63 _ rfl 3 rfl #[.int .i64 (F : Int), .int .i64 t] rfl ?_); intro w2 N2; have s2 := N2.size; have ct2 := ct1.later N2.below; have zt2 := zt1.later ct1 N2.below; have cg2 := N2.at'; have zg2 := N2.free; have b2 : Hid (Below w.heap.size w w2) := Lib.hid (below_then b1.out N2.below); clear N2; rw [s1] at s2 cg2 zg2; have yg0_2 : w2.cell? ⟨w.heap.size + 1, 0, none⟩ = some (.int .i64 (F : Int)) := cg2 0 (by simp); have xg0_2 : w2.frozen? ⟨w.heap.size + 1, 0, none⟩ = false := zg2 0 (by simp); have yg1_2 : w2.cell? ⟨w.heap.size + 1, 1, none⟩ = some (.int .i64 t) := cg2 1 (by simp); have xg1_2 : w2.frozen? ⟨w.heap.size + 1, 1, none⟩ = false := zg2 1 (by simp))
      | ((with_reducible refine wpList_alloc_lit rfl 65 rfl 4 rfl #[.int .i64 0, .int .i64 0] zeroP ?_); intro w3 N3; have s3 := N3.size; have ct3 := ct2.later N3.below; have zt3 := zt2.later ct2 N3.below; have cg3 := cg2.later N3.below; have zg3 := zg2.later cg2 N3.below; have cr3 := N3.at'; have zr3 := N3.free; have b3 : Hid (Below w.heap.size w w3) := Lib.hid (below_then b2.out N3.below); clear N3; rw [s2] at s3 cr3 zr3; clear yg0_2 xg0_2 yg1_2 xg1_2; have yg0_3 : w3.cell? ⟨w.heap.size + 1, 0, none⟩ = some (.int .i64 (F : Int)) := cg3 0 (by simp); have xg0_3 : w3.frozen? ⟨w.heap.size + 1, 0, none⟩ = false := zg3 0 (by simp); have yg1_3 : w3.cell? ⟨w.heap.size + 1, 1, none⟩ = some (.int .i64 t) := cg3 1 (by simp); have xg1_3 : w3.frozen? ⟨w.heap.size + 1, 1, none⟩ = false := zg3 1 (by simp); have yr0_3 : w3.cell? ⟨w.heap.size + 1 + 1, 0, none⟩ = some (.int .i64 0) := cr3 0 (by simp); have xr0_3 : w3.frozen? ⟨w.heap.size + 1 + 1, 0, none⟩ = false := zr3 0 (by simp); have yr1_3 : w3.cell? ⟨w.heap.size + 1 + 1, 1, none⟩ = some (.int .i64 0) := cr3 1 (by simp); have xr1_3 : w3.frozen? ⟨w.heap.size + 1 + 1, 1, none⟩ = false := zr3 1 (by simp))
      | (with_reducible refine wpList_load_at rfl 26 _ rfl _ 64 (fv l) rfl ct3 _ Try.underlying26 rfl infoV ?_)
      | (go_at_call 28; (with_reducible refine (EV.out _).mono ?_); rintro e w4 ⟨rfl, hb4⟩; have ct4 := ct3.later hb4; have zt4 := zt3.later ct3 hb4; have cg4 := cg3.later hb4; have zg4 := zg3.later cg3 hb4; have cr4 := cr3.later hb4; have zr4 := zr3.later cr3 hb4; have b4 : Hid (Below w.heap.size w w4) := Lib.hid (below_then b3.out hb4); have s4' := hb4.size; rw [s3] at s4'; clear yg0_3 xg0_3 yg1_3 xg1_3; clear yr0_3 xr0_3 yr1_3 xr1_3; have yg0_4 : w4.cell? ⟨w.heap.size + 1, 0, none⟩ = some (.int .i64 (F : Int)) := cg4 0 (by simp); have xg0_4 : w4.frozen? ⟨w.heap.size + 1, 0, none⟩ = false := zg4 0 (by simp); have yg1_4 : w4.cell? ⟨w.heap.size + 1, 1, none⟩ = some (.int .i64 t) := cg4 1 (by simp); have xg1_4 : w4.frozen? ⟨w.heap.size + 1, 1, none⟩ = false := zg4 1 (by simp); have yr0_4 : w4.cell? ⟨w.heap.size + 1 + 1, 0, none⟩ = some (.int .i64 0) := cr4 0 (by simp); have xr0_4 : w4.frozen? ⟨w.heap.size + 1 + 1, 0, none⟩ = false := zr4 0 (by simp); have yr1_4 : w4.cell? ⟨w.heap.size + 1 + 1, 1, none⟩ = some (.int .i64 0) := cr4 1 (by simp); have xr1_4 : w4.frozen? ⟨w.heap.size + 1 + 1, 1, none⟩ = false := zr4 1 (by simp); have lg4 := World.block_lt_of_cell? _ _ yg0_4; dsimp only at lg4; have lr4 := World.block_lt_of_cell? _ _ yr0_4; dsimp only at lr4; clear hb4)
      | ((with_reducible refine wpList_alloc_named rfl 52 rfl 5 rfl 61 (ziv) zeroI ?_); intro w5 N5; have s5 := N5.size; have ct5 := ct4.later N5.below; have zt5 := zt4.later ct4 N5.below; have cg5 := cg4.later N5.below; have zg5 := zg4.later cg4 N5.below; have cr5 := cr4.later N5.below; have zr5 := zr4.later cr4 N5.below; have cq5 := N5.at'; have zq5 := N5.free; have b5 : Hid (Below w.heap.size w w5) := Lib.hid (below_then b4.out N5.below); clear N5; have s5' := Nat.le_of_eq s5.symm; clear yg0_4 xg0_4 yg1_4 xg1_4; clear yr0_4 xr0_4 yr1_4 xr1_4; have yg0_5 : w5.cell? ⟨w.heap.size + 1, 0, none⟩ = some (.int .i64 (F : Int)) := cg5 0 (by simp); have xg0_5 : w5.frozen? ⟨w.heap.size + 1, 0, none⟩ = false := zg5 0 (by simp); have yg1_5 : w5.cell? ⟨w.heap.size + 1, 1, none⟩ = some (.int .i64 t) := cg5 1 (by simp); have xg1_5 : w5.frozen? ⟨w.heap.size + 1, 1, none⟩ = false := zg5 1 (by simp); have yr0_5 : w5.cell? ⟨w.heap.size + 1 + 1, 0, none⟩ = some (.int .i64 0) := cr5 0 (by simp); have xr0_5 : w5.frozen? ⟨w.heap.size + 1 + 1, 0, none⟩ = false := zr5 0 (by simp); have yr1_5 : w5.cell? ⟨w.heap.size + 1 + 1, 1, none⟩ = some (.int .i64 0) := cr5 1 (by simp); have xr1_5 : w5.frozen? ⟨w.heap.size + 1 + 1, 1, none⟩ = false := zr5 1 (by simp))
      | ((with_reducible refine wpList_store_at rfl 52 _ _ rfl _ 61 _ (sqv l) rfl rfl cq5 zq5 (fun _ _ => rfl) infoI ?_); intro w6 S6 B6 cq6 zq6 O6 P6; have ct6 := O6 _ _ _ (by omega) ct5; have zt6 := P6 _ _ zt5; have cg6 := O6 _ _ _ (by omega) cg5; have zg6 := P6 _ _ zg5; have cr6 := O6 _ _ _ (by omega) cr5; have zr6 := P6 _ _ zr5; have b6 : Hid (Below w.heap.size w w6) := Lib.hid (B6 _ _ (by omega) b5.out); have s6' := Nat.le_of_eq S6.symm; clear yg0_5 xg0_5 yg1_5 xg1_5; clear yr0_5 xr0_5 yr1_5 xr1_5; have yg0_6 : w6.cell? ⟨w.heap.size + 1, 0, none⟩ = some (.int .i64 (F : Int)) := cg6 0 (by simp); have xg0_6 : w6.frozen? ⟨w.heap.size + 1, 0, none⟩ = false := zg6 0 (by simp); have yg1_6 : w6.cell? ⟨w.heap.size + 1, 1, none⟩ = some (.int .i64 t) := cg6 1 (by simp); have xg1_6 : w6.frozen? ⟨w.heap.size + 1, 1, none⟩ = false := zg6 1 (by simp); have yr0_6 : w6.cell? ⟨w.heap.size + 1 + 1, 0, none⟩ = some (.int .i64 0) := cr6 0 (by simp); have xr0_6 : w6.frozen? ⟨w.heap.size + 1 + 1, 0, none⟩ = false := zr6 0 (by simp); have yr1_6 : w6.cell? ⟨w.heap.size + 1 + 1, 1, none⟩ = some (.int .i64 0) := cr6 1 (by simp); have xr1_6 : w6.frozen? ⟨w.heap.size + 1 + 1, 1, none⟩ = false := zr6 1 (by simp); clear S6 B6 O6 P6))
    have q0 : w6.cell? ⟨w4.heap.size, F, none⟩ = some (.int .i64 (sqA l F)) := cq6 F hF
    have hl1 : w.heap.size + 1 < w6.heap.size := by omega
    have hl2 : w4.heap.size < w6.heap.size := by omega
    have hl3 : w.heap.size + 1 + 1 < w4.heap.size := by omega
    try simp only [Act.put, List.setIfInBounds_toArray, List.set_cons_zero, List.set_cons_succ]
    go_cut [6] (fun s6 wx => ∃ P : Nat, s6 = .pointer (some ⟨P, 0, none⟩) ∧ w6.heap.size ≤ P ∧ wx.cell? ⟨P, 0, none⟩ = some (.int .i64 (F : Int)) ∧ wx.cell? ⟨P, 1, none⟩ = some (.int .i64 (sqA l F)) ∧ wx.frozen? ⟨P, 0, none⟩ = false ∧ wx.frozen? ⟨P, 1, none⟩ = false ∧ Below w6.heap.size w6 wx)
    case first =>
      go_region
      all_goals
        go_wp2_with fail
        go_meet
        exact ⟨_, rfl, Nat.le_refl _, by simp [go_sem], by simp [go_sem], by simp [go_sem], by simp [go_sem], (below_new _ _).drew⟩
    obtain ⟨P, rfl, hP6, yp0_7, yp1_7, xp0_7, xp1_7, hb7⟩ := hcut
    have ct7 := ct6.later hb7
    have zt7 := zt6.later ct6 hb7
    have cg7 := cg6.later hb7
    have zg7 := zg6.later cg6 hb7
    have cr7 := cr6.later hb7
    have zr7 := zr6.later cr6 hb7
    have cq7 := cq6.later hb7
    have zq7 := zq6.later cq6 hb7
    have b7 : Hid (Below w.heap.size w wc) := Lib.hid (below_then b6.out hb7)
    have s7' := hb7.size
    have yg0_7 : wc.cell? ⟨w.heap.size + 1, 0, none⟩ = some (.int .i64 (F : Int)) := cg7 0 (by simp)
    have xg0_7 : wc.frozen? ⟨w.heap.size + 1, 0, none⟩ = false := zg7 0 (by simp)
    have yg1_7 : wc.cell? ⟨w.heap.size + 1, 1, none⟩ = some (.int .i64 t) := cg7 1 (by simp)
    have xg1_7 : wc.frozen? ⟨w.heap.size + 1, 1, none⟩ = false := zg7 1 (by simp)
    have yr0_7 : wc.cell? ⟨w.heap.size + 1 + 1, 0, none⟩ = some (.int .i64 0) := cr7 0 (by simp)
    have xr0_7 : wc.frozen? ⟨w.heap.size + 1 + 1, 0, none⟩ = false := zr7 0 (by simp)
    have yr1_7 : wc.cell? ⟨w.heap.size + 1 + 1, 1, none⟩ = some (.int .i64 0) := cr7 1 (by simp)
    have xr1_7 : wc.frozen? ⟨w.heap.size + 1 + 1, 1, none⟩ = false := zr7 1 (by simp)
    clear hb7
    go_wp2
    have PR : Hid (∀ m, pk (sqA l) F (m + 1) = if (pk (sqA l) F m).2 < sqA l (F + m) then (F + m, sqA l (F + m)) else pk (sqA l) F m) := fun m => rfl
    have pk0 : pk (sqA l) F 0 = (F, sqA l F) := rfl
    have PK0 := Lib.hid pk0; clear pk0
    go_loopw [7] (fun s7 wr => ∃ M : Nat, F ≤ M ∧ M ≤ F + n + 1 ∧ s7 = .int .i64 (M : Int) ∧ wr.cell? ⟨w.heap.size + 1, 1, none⟩ = some (.int .i64 t) ∧ VAt w4.heap.size 61 (sqv l) wr ∧ wr.cell? ⟨P, 0, none⟩ = some (.int .i64 ((pk (sqA l) F (M - F)).1 : Nat)) ∧ wr.cell? ⟨P, 1, none⟩ = some (.int .i64 (pk (sqA l) F (M - F)).2) ∧ wr.frozen? ⟨P, 0, none⟩ = false ∧ wr.frozen? ⟨P, 1, none⟩ = false ∧ wr.cell? ⟨w.heap.size + 1 + 1, 0, none⟩ = some (.int .i64 0) ∧ wr.cell? ⟨w.heap.size + 1 + 1, 1, none⟩ = some (.int .i64 0) ∧ wr.frozen? ⟨w.heap.size + 1 + 1, 0, none⟩ = false ∧ wr.frozen? ⟨w.heap.size + 1 + 1, 1, none⟩ = false ∧ Hid (Below w.heap.size w wr)) (fun s7 _ => F + n + 1 - (intOf s7).toNat)
    case atStart => exact ⟨F, by omega, by omega, rfl, yg1_7, cq7, by rw [Nat.sub_self, PK0.out]; exact yp0_7, by rw [Nat.sub_self, PK0.out]; exact yp1_7, xp0_7, xp1_7, yr0_7, yr1_7, xr0_7, xr1_7, b7⟩
    case round =>
      have k1 : w.heap.size + 1 ≠ P := by omega
      have k2 : w.heap.size + 1 + 1 ≠ P := by omega
      have k3 : w4.heap.size ≠ P := by omega
      have k4 : w.heap.size ≤ P := by omega
      clear ct7 zt7 cg7 zg7 cr7 zr7
      obtain ⟨M, hM0, hM, rfl, gk, qk, p0, p1, pf0, pf1, r0, r1, rf0, rf1, bk⟩ := hrel
      have jj0 : (0 : Int) ≤ (M : Int) := Int.natCast_nonneg _
      by_cases hlt : M ≤ F + n
      · have jj1 : (M : Int) ≤ t := by rw [HN.out]; omega
        have jj2 : (M : Int) < 61 := by omega
        have q1 : wr.cell? ⟨w4.heap.size, M, none⟩ = some (.int .i64 (sqA l M)) := qk M (by omega)
        have hr := PR.out (M - F)
        rw [show M - F + 1 = M + 1 - F by omega, show F + (M - F) = M by omega] at hr
        have HR := Lib.hid hr; clear hr
        generalize hpp : pk (sqA l) F (M - F) = pp at *
        clear hpp
        obtain ⟨A, B⟩ := pp
        dsimp only at p0 p1
        by_cases hg : B < sqA l M
        · have hd : decide (B < sqA l M) = true := by simpa using hg
          have hr2 : pk (sqA l) F (M + 1 - F) = (M, sqA l M) := by rw [HR.out]; dsimp only; rw [if_pos hg]
          have HR2 := Lib.hid hr2
          clear hr2 HR
          generalize sqA l M = SM at *
          go_wp2
          go_quiet (fail)
          generalize hwq : World.drewN wr _ = wq
          have hbq : Below wr.heap.size wr wq := by rw [← hwq]; exact below_drewN (Below.refl _ _) _
          have gq := cell_later hbq gk
          have qq := qk.later hbq
          have u0 := cell_later hbq p0
          have u1 := cell_later hbq p1
          have uf0 := frozen_after hbq p0 pf0
          have uf1 := frozen_after hbq p1 pf1
          have v0 := cell_later hbq r0
          have v1 := cell_later hbq r1
          have vf0 := frozen_after hbq r0 rf0
          have vf1 := frozen_after hbq r1 rf1
          have q2 := cell_later hbq q1
          have bq : Hid (Below w.heap.size w wq) := Lib.hid (below_then bk.out hbq)
          clear hwq hbq gk qk p0 p1 pf0 pf1 r0 r1 rf0 rf1 q1 bk
          go_wp2
          go_roundw
          case rel => exact ⟨M + 1, by omega, by omega, by go_num, setO (.inl k1) (setO (.inl k1) gq), (qq.other _ _ k3 _).other _ _ k3 _, by rw [HR2.out]; exact setO (.inr (by simp)) (setS u0), by rw [HR2.out]; exact setS (setO (.inr (by simp)) u1), by rw [World.frozen?_setCell, World.frozen?_setCell]; exact uf0, by rw [World.frozen?_setCell, World.frozen?_setCell]; exact uf1, setO (.inl k2) (setO (.inl k2) v0), setO (.inl k2) (setO (.inl k2) v1), by rw [World.frozen?_setCell, World.frozen?_setCell]; exact vf0, by rw [World.frozen?_setCell, World.frozen?_setCell]; exact vf1, Lib.hid ((bq.out.setCell k4 _).setCell k4 _)⟩
          case measure => simp [intOf]; omega
        · have hd : decide (B < sqA l M) = false := by simpa using hg
          have hr2 : pk (sqA l) F (M + 1 - F) = (A, B) := by rw [HR.out]; dsimp only; rw [if_neg hg]
          have HR2 := Lib.hid hr2
          clear hr2 HR
          generalize sqA l M = SM at *
          go_wp2
          go_quiet (fail)
          generalize hwq : World.drewN wr _ = wq
          have hbq : Below wr.heap.size wr wq := by rw [← hwq]; exact below_drewN (Below.refl _ _) _
          have gq := cell_later hbq gk
          have qq := qk.later hbq
          have u0 := cell_later hbq p0
          have u1 := cell_later hbq p1
          have uf0 := frozen_after hbq p0 pf0
          have uf1 := frozen_after hbq p1 pf1
          have v0 := cell_later hbq r0
          have v1 := cell_later hbq r1
          have vf0 := frozen_after hbq r0 rf0
          have vf1 := frozen_after hbq r1 rf1
          have q2 := cell_later hbq q1
          have bq : Hid (Below w.heap.size w wq) := Lib.hid (below_then bk.out hbq)
          clear hwq hbq gk qk p0 p1 pf0 pf1 r0 r1 rf0 rf1 q1 bk
          go_wp2
          go_roundw
          case rel => exact ⟨M + 1, by omega, by omega, by go_num, gq, qq, by rw [HR2.out]; exact u0, by rw [HR2.out]; exact u1, uf0, uf1, v0, v1, vf0, vf1, bq⟩
          case measure => simp [intOf]; omega
      · have jj1 : ¬ (M : Int) ≤ t := by rw [HN.out]; omega
        obtain rfl : M = F + n + 1 := by omega
        rw [show F + n + 1 - F = n + 1 by omega] at p0 p1
        rw [← HP.out] at p0 p1
        go_wp2
        refine bodyPost_ret (v := .agg #[.int .i64 P0.1, .int .i64 P0.2]) ?_ rfl ⟨rfl, (bk.out.setCell (by dsimp only; omega) _).setCell (by dsimp only; omega) _⟩
        simp [results, Try.results34, go_sem, r0, r1]
end Go.Proofs.Ytoieemgdkpnbfaa
