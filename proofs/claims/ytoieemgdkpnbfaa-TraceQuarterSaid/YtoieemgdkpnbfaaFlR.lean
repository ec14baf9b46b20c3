/- a quarter of a period -/
import Derived.Test.YtoieemgdkpnbfaaFlQ
namespace Go.Proofs.Ytoieemgdkpnbfaa
open Go.RowKit RayM
set_option linter.unusedSimpArgs false
set_option linter.unusedVariables false
theorem zero4 : (Try.prog.info? 60).map (fun i => (i.zero, i.size)) = some (some (.agg #[.int .i64 0, .int .i64 0, .int .i64 0, .int .i64 0]), (#[Value.int .i64 0, .int .i64 0, .int .i64 0, .int .i64 0]).size) := by kernel_rfl
theorem info4 : (Try.prog.info? 60).map (·.size) = some (#[Value.int .i64 0, .int .i64 0, .int .i64 0, .int .i64 0]).size := by kernel_rfl
theorem one4 (a b c d : Int) (n : Nat) (hn : n = 4) : ∀ i, i < n → (cel #[.int .i64 a, .int .i64 b, .int .i64 c, .int .i64 d] i).oneCell' = true := fun i hi => by
  subst hn
  have : i = 0 ∨ i = 1 ∨ i = 2 ∨ i = 3 := by omega
  rcases this with rfl | rfl | rfl | rfl <;> rfl
theorem few_four (a b : Int) (ha : -2047 ≤ a ∧ a ≤ 2047) (hb : -2047 ≤ b ∧ b ≤ 2047) : Few (four a b) := fun i _ => by
  have := four_in a b i ha hb; omega
theorem ct_four (a b : Int) (ha : -2047 ≤ a ∧ a ≤ 2047) (hb : -2047 ≤ b ∧ b ≤ 2047) : ctE (four a b) = 0 := (ctE_zero _).2 (fun i _ => four_in a b i ha hb)
set_option maxRecDepth 100000 in
set_option maxHeartbeats 4000000 in
theorem tq_in (a c : Int) (w : World) (ha : -2047 ≤ a ∧ a ≤ 2047) (hc : -2047 ≤ c ∧ c ≤ 2047) :
    Calls Try.prog 7 #[.int .i64 a, .int .i64 c] w fun e w' => e = .returned (.bool true) ∧ Below w.heap.size w w' := by
  have HA := Lib.hid (fun w => bw_true a (-2047) 2047 ha w)
  have HC := Lib.hid (fun w => bw_true c (-2047) 2047 hc w)
  have AN := Lib.hid (fun w => analytic_any (four a c) (few_four a c ha hc) w)
  have EN := Lib.hid (fun w => envelope_any (four a c) (few_four a c ha hc) w)
  rw [ct_four a c ha hc] at AN EN
  simp only [if_true] at AN EN
  have FI := Lib.hid (fun i => four_in a c i ha hc)
  have sa := sq_in a (by omega)
  have sc := sq_in c (by omega)
  have e1 : IntKind.i64.wrap (a * a) = a * a := IntWalk.i64_in _ (by omega)
  have e2 : IntKind.i64.wrap (c * c) = c * c := IntWalk.i64_in _ (by omega)
  have e3 : IntKind.i64.wrap (a * a + c * c) = a * a + c * c := IntWalk.i64_in _ (by omega)
  have e4 : IntKind.i64.wrap (4 * (a * a + c * c)) = 4 * (a * a + c * c) := IntWalk.i64_in _ (by omega)
  have SF := @run_store_float Try.prog
  obtain ⟨a0, a1⟩ := ha
  obtain ⟨c0, c1⟩ := hc
  clear sa sc
  go_enter Try.func7, Try.ntmps7
  go_wp2_with (first
    | (go_at_call 12; (with_reducible refine (awake_any _).mono ?_); rintro e w1 ⟨rfl, hb1⟩; have b1 : Hid (Below w.heap.size w w1) := Lib.hid hb1; have s1' := hb1.size; clear hb1)
    | ((with_reducible refine wpList_alloc_lit rfl 60 rfl 5 rfl #[.int .i64 0, .int .i64 0, .int .i64 0, .int .i64 0] zero4 ?_); intro w2 N2; have s2 := N2.size; have cf2 := N2.at'; have zf2 := N2.free; have b2 : Hid (Below w.heap.size w w2) := Lib.hid (below_then b1.out N2.below); clear N2; have s2' := Nat.le_of_eq s2.symm; have yf0_2 : w2.cell? ⟨w1.heap.size, 0, none⟩ = some (.int .i64 0) := cf2 0 (by simp); have xf0_2 : w2.frozen? ⟨w1.heap.size, 0, none⟩ = false := zf2 0 (by simp); have yf1_2 : w2.cell? ⟨w1.heap.size, 1, none⟩ = some (.int .i64 0) := cf2 1 (by simp); have xf1_2 : w2.frozen? ⟨w1.heap.size, 1, none⟩ = false := zf2 1 (by simp); have yf2_2 : w2.cell? ⟨w1.heap.size, 2, none⟩ = some (.int .i64 0) := cf2 2 (by simp); have xf2_2 : w2.frozen? ⟨w1.heap.size, 2, none⟩ = false := zf2 2 (by simp); have yf3_2 : w2.cell? ⟨w1.heap.size, 3, none⟩ = some (.int .i64 0) := cf2 3 (by simp); have xf3_2 : w2.frozen? ⟨w1.heap.size, 3, none⟩ = false := zf2 3 (by simp))
    | ((with_reducible refine wpList_store_lit rfl 60 _ _ rfl _ _ _ #[.int .i64 a, .int .i64 c, .int .i64 (-a), .int .i64 (-c)] rfl rfl cf2 zf2 rfl (one4 _ _ _ _ _ rfl) info4 ?_); intro w3 S3 B3 cf3 zf3 O3 P3; have b3 : Hid (Below w.heap.size w w3) := Lib.hid (B3 _ _ (by omega) b2.out); have s3' := Nat.le_of_eq S3.symm; clear yf0_2 xf0_2 yf1_2 xf1_2 yf2_2 xf2_2 yf3_2 xf3_2; have yf0_3 : w3.cell? ⟨w1.heap.size, 0, none⟩ = some (.int .i64 a) := cf3 0 (by simp); have xf0_3 : w3.frozen? ⟨w1.heap.size, 0, none⟩ = false := zf3 0 (by simp); have yf1_3 : w3.cell? ⟨w1.heap.size, 1, none⟩ = some (.int .i64 c) := cf3 1 (by simp); have xf1_3 : w3.frozen? ⟨w1.heap.size, 1, none⟩ = false := zf3 1 (by simp); have yf2_3 : w3.cell? ⟨w1.heap.size, 2, none⟩ = some (.int .i64 (-a)) := cf3 2 (by simp); have xf2_3 : w3.frozen? ⟨w1.heap.size, 2, none⟩ = false := zf3 2 (by simp); have yf3_3 : w3.cell? ⟨w1.heap.size, 3, none⟩ = some (.int .i64 (-c)) := cf3 3 (by simp); have xf3_3 : w3.frozen? ⟨w1.heap.size, 3, none⟩ = false := zf3 3 (by simp); clear S3 B3 O3 P3)
    | ((with_reducible refine wpList_alloc_named rfl 26 rfl 6 rfl 64 (fv fun _ => 0) zeroT ?_); intro w4 N4; have s4 := N4.size; have cf4 := cf3.later N4.below; have zf4 := zf3.later cf3 N4.below; have ct4 := N4.at'; have zt4 := N4.free; have b4 : Hid (Below w.heap.size w w4) := Lib.hid (below_then b3.out N4.below); clear N4; have s4' := Nat.le_of_eq s4.symm; clear yf0_3 xf0_3 yf1_3 xf1_3 yf2_3 xf2_3 yf3_3 xf3_3; have yf0_4 : w4.cell? ⟨w1.heap.size, 0, none⟩ = some (.int .i64 a) := cf4 0 (by simp); have xf0_4 : w4.frozen? ⟨w1.heap.size, 0, none⟩ = false := zf4 0 (by simp); have yf1_4 : w4.cell? ⟨w1.heap.size, 1, none⟩ = some (.int .i64 c) := cf4 1 (by simp); have xf1_4 : w4.frozen? ⟨w1.heap.size, 1, none⟩ = false := zf4 1 (by simp); have yf2_4 : w4.cell? ⟨w1.heap.size, 2, none⟩ = some (.int .i64 (-a)) := cf4 2 (by simp); have xf2_4 : w4.frozen? ⟨w1.heap.size, 2, none⟩ = false := zf4 2 (by simp); have yf3_4 : w4.cell? ⟨w1.heap.size, 3, none⟩ = some (.int .i64 (-c)) := cf4 3 (by simp); have xf3_4 : w4.frozen? ⟨w1.heap.size, 3, none⟩ = false := zf4 3 (by simp))
    | (go_at_call 17; (with_reducible refine (HA.out _).mono ?_); rintro e w' ⟨rfl, rfl⟩)
    | (go_at_call 17; (with_reducible refine (HC.out _).mono ?_); rintro e w' ⟨rfl, rfl⟩))
  have TS := Lib.hid (fourS_zero a c)
  rw [← TS.out] at ct4
  have FX : Hid (VAt (w1.heap.size) 4 (cel #[.int .i64 a, .int .i64 c, .int .i64 (-a), .int .i64 (-c)]) w4) := cf4
  go_loopw [7] (fun s7 wr => ∃ k : Nat, k ≤ 64 ∧ s7 = .int .i64 (k : Int) ∧ VAt (w1.heap.size) 4 (cel #[.int .i64 a, .int .i64 c, .int .i64 (-a), .int .i64 (-c)]) wr ∧ VAt (w3.heap.size) 64 (fv (fourS a c k)) wr ∧ Fz (w3.heap.size) 64 wr ∧ Hid (Below w.heap.size w wr)) (fun s7 _ => 64 - (intOf s7).toNat)
  case atStart => exact ⟨0, by omega, rfl, FX.out, ct4, zt4, b4⟩
  case round =>
    have hne : (w1.heap.size) ≠ (w3.heap.size) := by omega
    have hge : w.heap.size ≤ w3.heap.size := by omega
    obtain ⟨k, hk, rfl, fk, tk, zk, bk⟩ := hrel
    have j0 : (0 : Int) ≤ (k : Int) := Int.natCast_nonneg _
    by_cases hlt : k < 64
    · have j1 : (k : Int) < 64 := by omega
      have q0 := tk k hlt
      have q1 := zk k hlt
      have hr : k % 4 = 0 ∨ k % 4 = 1 ∨ k % 4 = 2 ∨ k % 4 = 3 := by omega
      rcases hr with hr | hr | hr | hr
      · have hm : (k : Int) % 4 = 0 := by omega
        have y0 : wr.cell? ⟨w1.heap.size, 0, none⟩ = some (.int .i64 (a)) := fk 0 (by decide)
        have h4 : four a c k = a := by unfold four; simp [hr]
        have H4 := Lib.hid h4; clear h4 hr
        go_wp2
        go_roundw
        case rel => exact ⟨k + 1, by omega, by go_num, fk.other _ _ hne _, (tk.set k hlt _).congr (fourS_step a c k _ (by rw [H4.out]; rfl)), zk.set _ _, Lib.hid (bk.out.setCell hge _)⟩
        case measure => simp [intOf]; omega
      · have hm : (k : Int) % 4 = 1 := by omega
        have y0 : wr.cell? ⟨w1.heap.size, 1, none⟩ = some (.int .i64 (c)) := fk 1 (by decide)
        have h4 : four a c k = c := by unfold four; simp [hr]
        have H4 := Lib.hid h4; clear h4 hr
        go_wp2
        go_roundw
        case rel => exact ⟨k + 1, by omega, by go_num, fk.other _ _ hne _, (tk.set k hlt _).congr (fourS_step a c k _ (by rw [H4.out]; rfl)), zk.set _ _, Lib.hid (bk.out.setCell hge _)⟩
        case measure => simp [intOf]; omega
      · have hm : (k : Int) % 4 = 2 := by omega
        have y0 : wr.cell? ⟨w1.heap.size, 2, none⟩ = some (.int .i64 (-a)) := fk 2 (by decide)
        have h4 : four a c k = -a := by unfold four; simp [hr]
        have H4 := Lib.hid h4; clear h4 hr
        go_wp2
        go_roundw
        case rel => exact ⟨k + 1, by omega, by go_num, fk.other _ _ hne _, (tk.set k hlt _).congr (fourS_step a c k _ (by rw [H4.out]; rfl)), zk.set _ _, Lib.hid (bk.out.setCell hge _)⟩
        case measure => simp [intOf]; omega
      · have hm : (k : Int) % 4 = 3 := by omega
        have y0 : wr.cell? ⟨w1.heap.size, 3, none⟩ = some (.int .i64 (-c)) := fk 3 (by decide)
        have h4 : four a c k = -c := by unfold four; simp [hr]
        have H4 := Lib.hid h4; clear h4 hr
        go_wp2
        go_roundw
        case rel => exact ⟨k + 1, by omega, by go_num, fk.other _ _ hne _, (tk.set k hlt _).congr (fourS_step a c k _ (by rw [H4.out]; rfl)), zk.set _ _, Lib.hid (bk.out.setCell hge _)⟩
        case measure => simp [intOf]; omega
    · obtain rfl : k = 64 := by omega
      have ct20 := tk.congr (fourS_all a c)
      have zt20 := zk
      have b20 := bk
      have s20' : w.heap.size ≤ wr.heap.size := bk.out.size
      clear tk zk bk fk
      have lt20 : w3.heap.size < wr.heap.size := World.block_lt_of_cell? _ _ (ct20 0 (by decide))
      go_wp2_with (first
        | (with_reducible refine wpList_load_at rfl 26 _ rfl _ 64 (fv (four a c)) rfl ct20 _ Try.underlying26 rfl infoV ?_)
        | (go_at_call 25; (with_reducible refine (AN.out _).mono ?_); rintro e w21 ⟨rfl, hb21⟩; have ct21 := ct20.later hb21; have zt21 := zt20.later ct20 hb21; have b21 : Hid (Below w.heap.size w w21) := Lib.hid (below_then b20.out hb21); have s21' := hb21.size; clear hb21)
        | ((with_reducible refine wpList_alloc_named rfl 49 rfl 8 rfl 61 (zcv) zeroC ?_); intro w22 N22; have s22 := N22.size; have ct22 := ct21.later N22.below; have zt22 := zt21.later ct21 N22.below; have cz22 := N22.at'; have zz22 := N22.free; have b22 : Hid (Below w.heap.size w w22) := Lib.hid (below_then b21.out N22.below); clear N22; have s22' := Nat.le_of_eq s22.symm)
        | ((with_reducible refine wpList_store_at rfl 49 _ _ rfl _ 61 _ (anv (four a c)) rfl rfl cz22 zz22 (fun _ _ => rfl) infoC ?_); intro w23 S23 B23 cz23 zz23 O23 P23; have ct23 := O23 _ _ _ (by omega) ct22; have zt23 := P23 _ _ zt22; have b23 : Hid (Below w.heap.size w w23) := Lib.hid (B23 _ _ (by omega) b22.out); have s23' := Nat.le_of_eq S23.symm; clear S23 B23 O23 P23)
        | (with_reducible refine wpList_load_at rfl 26 _ rfl _ 64 (fv (four a c)) rfl ct23 _ Try.underlying26 rfl infoV ?_)
        | (go_at_call 26; (with_reducible refine (EN.out _).mono ?_); rintro e w24 ⟨rfl, hb24⟩; have ct24 := ct23.later hb24; have zt24 := zt23.later ct23 hb24; have cz24 := cz23.later hb24; have zz24 := zz23.later cz23 hb24; have b24 : Hid (Below w.heap.size w w24) := Lib.hid (below_then b23.out hb24); have s24' := hb24.size; clear hb24)
        | ((with_reducible refine wpList_alloc_named rfl 52 rfl 10 rfl 61 (ziv) zeroI ?_); intro w25 N25; have s25 := N25.size; have ct25 := ct24.later N25.below; have zt25 := zt24.later ct24 N25.below; have cz25 := cz24.later N25.below; have zz25 := zz24.later cz24 N25.below; have cs25 := N25.at'; have zs25 := N25.free; have b25 : Hid (Below w.heap.size w w25) := Lib.hid (below_then b24.out N25.below); clear N25; have s25' := Nat.le_of_eq s25.symm)
        | ((with_reducible refine wpList_store_at rfl 52 _ _ rfl _ 61 _ (sqv (four a c)) rfl rfl cs25 zs25 (fun _ _ => rfl) infoI ?_); intro w26 S26 B26 cs26 zs26 O26 P26; have ct26 := O26 _ _ _ (by omega) ct25; have zt26 := P26 _ _ zt25; have cz26 := O26 _ _ _ (by omega) cz25; have zz26 := P26 _ _ zz25; have b26 : Hid (Below w.heap.size w w26) := Lib.hid (B26 _ _ (by omega) b25.out); have s26' := Nat.le_of_eq S26.symm; clear S26 B26 O26 P26))
      go_loopw [12] (fun s12 wr => ∃ k : Nat, k ≤ 61 ∧ s12 = .int .i64 (k : Int) ∧ VAt (w21.heap.size) 61 (anv (four a c)) wr ∧ VAt (w24.heap.size) 61 (sqv (four a c)) wr ∧ Hid (Below w.heap.size w wr)) (fun s12 _ => 61 - (intOf s12).toNat)
      case atStart => exact ⟨0, by omega, rfl, cz26, cs26, b26⟩
      case round =>
        obtain ⟨k, hk, rfl, zk, sk, bk⟩ := hrel
        have j0 : (0 : Int) ≤ (k : Int) := Int.natCast_nonneg _
        by_cases hlt : k < 61
        · have j1 : (k : Int) < 61 := by omega
          have y0 : wr.cell? ⟨w24.heap.size, k, none⟩ = some (.int .i64 (4 * (a * a + c * c))) := by rw [sk k hlt]; show some (Value.int .i64 (sqA (four a c) k)) = _; rw [four_squares]
          by_cases h0 : k = 0
          · subst h0
            go_wp2
            go_quiet (fail)
            generalize hwq : World.drewN wr _ = wq
            have hbq : Below wr.heap.size wr wq := by rw [← hwq]; exact below_drewN (Below.refl _ _) _
            go_wp2
            go_roundw
            case rel => exact ⟨1, by omega, rfl, zk.later hbq, sk.later hbq, Lib.hid (below_then bk.out hbq)⟩
            case measure => simp [intOf]
          · obtain ⟨m, rfl⟩ : ∃ m, k = m + 1 := ⟨k - 1, by omega⟩
            have f1 := FI.out (m + 1)
            have f2 := FI.out m
            have y1 : wr.cell? ⟨w21.heap.size, m + 1, none⟩ = some (.complex .f32 (fs (2 * four a c (m + 1))) (fs (-(2 * four a c m)))) := by
              rw [zk (m + 1) hlt, four_an, four_two]; rw [show 2 * -four a c m = -(2 * four a c m) by omega]
            have y2 : wr.cell? ⟨w21.heap.size, m, none⟩ = some (.complex .f32 (fs (2 * four a c m)) (fs (2 * four a c (m + 1)))) := by
              rw [zk m (by omega), four_an]
            have n1 := neq_same (2 * four a c (m + 1)) (by omega)
            have n2 := neq_neg (2 * four a c m) (by omega)
            generalize 2 * four a c (m + 1) = p at *
            generalize 2 * four a c m = r at *
            rw [show ((m + 1 : Nat) : Int) = (m : Int) + 1 from rfl] at *
            have m0 : (0 : Int) ≤ (m : Int) := Int.natCast_nonneg _
            have m1 : (m : Int) < 61 := by omega
            have un : ∀ (b : Nat) (w : World), Sem.run Try.prog (Op.unary UnOp.neg (Value.float FloatKind.f32 b)) w = .ok (.float .f32 (Op.negFloat .f32 b)) w := fun _ _ => rfl
            have e5 : IntKind.i64.wrap (m : Int) = m := IntWalk.i64_in _ (by omega)
            go_wp2
            go_quiet (fail)
            generalize hwq : World.drewN wr _ = wq
            have hbq : Below wr.heap.size wr wq := by rw [← hwq]; exact below_drewN (Below.refl _ _) _
            go_wp2
            go_roundw
            case rel => exact ⟨m + 1 + 1, by omega, by go_num, zk.later hbq, sk.later hbq, Lib.hid (below_then bk.out hbq)⟩
            case measure => simp [intOf]; omega
        · obtain rfl : k = 61 := by omega
          go_wp2
          go_ret
          exact ⟨rfl, bk.out⟩
theorem tq_any (a c : Int) (w : World) :
    Calls Try.prog 7 #[.int .i64 a, .int .i64 c] w fun e w' => e = .returned (.bool true) ∧ Below w.heap.size w w' := by
  by_cases h : (-2047 ≤ a ∧ a ≤ 2047) ∧ (-2047 ≤ c ∧ c ≤ 2047)
  · exact tq_in a c w h.1 h.2
  · exact tq_out a c w h
end Go.Proofs.Ytoieemgdkpnbfaa
