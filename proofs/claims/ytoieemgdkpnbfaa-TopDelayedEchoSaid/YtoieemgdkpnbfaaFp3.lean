/- gains: the reference -/
import Derived.Test.YtoieemgdkpnbfaaFp2
import Derived.Test.YtoieemgdkpnbfaaFm4
import Derived.Test.YtoieemgdkpnbfaaFl16
import Derived.Test.YtoieemgdkpnbfaaFlJ
namespace Go.Proofs.Ytoieemgdkpnbfaa
open Go.RowKit RayM
set_option linter.unusedSimpArgs false
set_option linter.unusedVariables false
set_option maxRecDepth 100000 in
set_option maxHeartbeats 6000000 in
theorem rGained_any (F : Nat → Int) (n d : Int) (w : World) (hl : ∀ i, i < 64 → -2047 ≤ F i ∧ F i ≤ 2047) (gn0 : 0 ≤ n) (gn1 : n ≤ 1000) (gd0 : 1 ≤ d) (gd1 : d ≤ 1000) :
    Calls Try.prog 23 #[.agg (vls 64 (fv F)).toArray, .agg #[.int .i64 n, .int .i64 d]] w fun e w' => e = .returned (.tuple #[.agg (vls 64 (fv (trS (gcV F n d) 64))).toArray, .int .i64 (cuS F n d 64)]) ∧ Below w.heap.size w w' := by
  have HL := Lib.hid hl
  have HI := Lib.hid (fun w => rInts_any F (few_in hl) w)
  have RT := Lib.hid (fun A c w h => rTrace_any A 64 c (gcV F n d) w (by omega) h)
  clear hl
  go_enter Try.func23, Try.ntmps23
  go_wp2_with (first
    | ((with_reducible refine wpList_box_named rfl 26 _ rfl 2 rfl 64 (fv F) rfl ?_); intro w1 N1; have s1 := N1.size; have ct1 := N1.at'; have zt1 := N1.free; have b1 : Hid (Below w.heap.size w w1) := Lib.hid N1.below; clear N1)
    | ((with_reducible refine wpList_box_lit rfl 41 _ rfl 3 rfl #[.int .i64 n, .int .i64 d] rfl ?_); intro w2 N2; have s2 := N2.size; have ct2 := ct1.later N2.below; have zt2 := zt1.later ct1 N2.below; have cg2 := N2.at'; have zg2 := N2.free; have b2 : Hid (Below w.heap.size w w2) := Lib.hid (below_then b1.out N2.below); clear N2; rw [s1] at s2 cg2 zg2; have yg0_2 : w2.cell? ⟨w.heap.size + 1, 0, none⟩ = some (.int .i64 n) := cg2 0 (by simp); have xg0_2 : w2.frozen? ⟨w.heap.size + 1, 0, none⟩ = false := zg2 0 (by simp); have yg1_2 : w2.cell? ⟨w.heap.size + 1, 1, none⟩ = some (.int .i64 d) := cg2 1 (by simp); have xg1_2 : w2.frozen? ⟨w.heap.size + 1, 1, none⟩ = false := zg2 1 (by simp))
    | ((with_reducible refine wpList_alloc_named rfl 26 rfl 4 rfl 64 (fv fun _ => 0) zeroT ?_); intro w3 N3; have s3 := N3.size; have ct3 := ct2.later N3.below; have zt3 := zt2.later ct2 N3.below; have cg3 := cg2.later N3.below; have zg3 := zg2.later cg2 N3.below; have cr3 := N3.at'; have zr3 := N3.free; have b3 : Hid (Below w.heap.size w w3) := Lib.hid (below_then b2.out N3.below); clear N3; rw [s2] at s3 cr3 zr3; clear yg0_2 xg0_2 yg1_2 xg1_2; have yg0_3 : w3.cell? ⟨w.heap.size + 1, 0, none⟩ = some (.int .i64 n) := cg3 0 (by simp); have xg0_3 : w3.frozen? ⟨w.heap.size + 1, 0, none⟩ = false := zg3 0 (by simp); have yg1_3 : w3.cell? ⟨w.heap.size + 1, 1, none⟩ = some (.int .i64 d) := cg3 1 (by simp); have xg1_3 : w3.frozen? ⟨w.heap.size + 1, 1, none⟩ = false := zg3 1 (by simp))
    | (with_reducible refine wpList_load_at rfl 26 _ rfl _ 64 (fv F) rfl ct3 _ Try.underlying26 rfl infoV ?_)
    | (go_at_call 56; (with_reducible refine (HI.out _).mono ?_); rintro e w4 ⟨v1, rfl, hown1, hb4⟩; have ct4 := ct3.later hb4; have zt4 := zt3.later ct3 hb4; have cg4 := cg3.later hb4; have zg4 := zg3.later cg3 hb4; have cr4 := cr3.later hb4; have zr4 := zr3.later cr3 hb4; have b4 : Hid (Below w.heap.size w w4) := Lib.hid (below_then b3.out hb4); have s4' := hb4.size; rw [s3] at s4'; clear yg0_3 xg0_3 yg1_3 xg1_3; have yg0_4 : w4.cell? ⟨w.heap.size + 1, 0, none⟩ = some (.int .i64 n) := cg4 0 (by simp); have xg0_4 : w4.frozen? ⟨w.heap.size + 1, 0, none⟩ = false := zg4 0 (by simp); have yg1_4 : w4.cell? ⟨w.heap.size + 1, 1, none⟩ = some (.int .i64 d) := cg4 1 (by simp); have xg1_4 : w4.frozen? ⟨w.heap.size + 1, 1, none⟩ = false := zg4 1 (by simp); have lg4 := World.block_lt_of_cell? _ _ yg0_4; dsimp only at lg4; clear hb4))
  obtain ⟨q, c1, rfl, gb, gl, rx⟩ := own_row hown1 (by omega)
  clear hown1
  have k1 : q ≠ w.heap.size + 1 + 1 := by omega
  have k2 : q ≠ w.heap.size + 1 := by omega
  have k3 : w.heap.size ≤ q := by omega
  have rx' : RowW q 64 (gpS F n d 0) w4 := by rw [gpS_zero]; exact rx
  clear rx
  go_wp2_with fail
  go_loopw [7, 8] (fun s7 s8 wr => ∃ k : Nat, k ≤ 64 ∧ s8 = .int .i64 (k : Int) ∧ s7 = .int .i64 (cuS F n d k) ∧ RowW q 64 (gpS F n d k) wr ∧ wr.cell? ⟨w.heap.size + 1, 0, none⟩ = some (.int .i64 n) ∧ wr.cell? ⟨w.heap.size + 1, 1, none⟩ = some (.int .i64 d) ∧ VAt (w.heap.size + 1 + 1) 64 (fv fun _ => 0) wr ∧ Fz (w.heap.size + 1 + 1) 64 wr ∧ Hid (Below w.heap.size w wr)) (fun _ s8 _ => 64 - (intOf s8).toNat)
  case atStart => exact ⟨0, by omega, rfl, rfl, rx', yg0_4, yg1_4, cr4, zr4, b4⟩
  case round =>
    clear rx' yg0_4 yg1_4 cr4 zr4 b4
    try clear ct1
    try clear zt1
    try clear b1
    try clear ct2
    try clear zt2
    try clear cg2
    try clear zg2
    try clear b2
    try clear ct3
    try clear zt3
    try clear cg3
    try clear zg3
    try clear cr3
    try clear zr3
    try clear b3
    try clear ct4
    try clear zt4
    try clear cg4
    try clear zg4
    try clear cr4
    try clear zr4
    try clear b4
    obtain ⟨k, hk, rfl, rfl, tk, g0, g1, rk, fk, bk⟩ := hrel
    have j0 : (0 : Int) ≤ (k : Int) := Int.natCast_nonneg _
    by_cases hlt : k < 64
    · have j1 : (k : Int) < 64 := by omega
      have y0 : wr.cell? ⟨q, k, none⟩ = some (.int .i64 (F k)) := by have := (tk k hlt).1; unfold gpS at this; rw [if_neg (by omega)] at this; exact this
      have hx := HL.out k hlt
      have pb := gn_prod (F k) n hx ⟨gn0, gn1⟩
      have e1 : IntKind.i64.wrap (F k * n) = F k * n := IntWalk.i64_in _ (by omega)
      have NE := Lib.hid (fun w => (rounded_any (F k * n) d w (by omega) (by omega) gd0 (by omega)).mono (fun e w' h => (⟨h.1, h.2.symm⟩ : e = .returned (.int .i64 ((2 * (F k * n) + d) / (2 * d))) ∧ w' = w)))
      have cb := cuS_in F n d k
      have CS : Hid (cuS F n d (k + 1) = cuS F n d k + if gcV F n d k = gnV F n d k then 0 else 1) := (rfl : _ = _)
      have GV : Hid (gcV F n d k = max (-2047) (min 2047 (gnV F n d k))) := (rfl : _ = _)
      have GN : Hid ((2 * (F k * n) + d) / (2 * d) = gnV F n d k) := (rfl : _ = _)
      have AP : Hid (∀ j, j < 64 → gpS F n d (k + 1) j = if j = k then gcV F n d k else gpS F n d k j) := Lib.hid (fun j hj => by
        unfold gpS
        by_cases e : j = k
        · subst e; rw [if_pos (by omega), if_pos rfl]
        · rw [if_neg e]
          by_cases e2 : j < k
          · rw [if_pos e2, if_pos (by omega)]
          · rw [if_neg e2, if_neg (by omega)])
      rw [GN.out] at NE
      generalize gnV F n d k = v at *
      generalize gcV F n d k = c at *
      generalize cuS F n d k = u at *
      clear pb hx GN
      go_wp2
      go_quiet ((go_at_call 62; exact Calls.quiet_of_same (NE.out _)))
      generalize hwq : World.drewN wr _ = wq
      have hbq : Below wr.heap.size wr wq := by rw [← hwq]; exact below_drewN (Below.refl _ _) _
      have tq := tk.later hbq
      have h0 := cell_later hbq g0
      have h1 := cell_later hbq g1
      have rq := rk.later hbq
      have fq := fk.later rk hbq
      have bq : Hid (Below w.heap.size w wq) := Lib.hid (below_then bk.out hbq)
      have y1 := cell_later hbq y0
      have y2 := (tq k hlt).2
      clear hwq hbq tk g0 g1 rk fk bk y0 e1
      by_cases p1 : v < -2047
      · have hcv : c = -2047 := by rw [GV.out]; omega
        have CS2 : Hid (cuS F n d (k + 1) = u + 1) := by show _ = _; rw [CS.out, hcv, if_neg (by omega)]
        have AP2 : Hid (∀ j, j < 64 → gpS F n d (k + 1) j = if j = k then -2047 else gpS F n d k j) := by rw [hcv] at AP; exact AP
        have p5 : v < 2047 := (by omega); clear hcv GV CS AP
        go_wp2
        go_roundw
        case rel => exact ⟨k + 1, by omega, by go_num, by rw [CS2.out], tq.put k _ hlt AP2.out, setO (.inl (Ne.symm k2)) h0, setO (.inl (Ne.symm k2)) h1, rq.other _ _ (Ne.symm k1) _, fq.set _ _, Lib.hid (bq.out.setCell k3 _)⟩
        case measure => simp [intOf]; omega
      · by_cases p2 : 2047 < v
        · have hcv : c = 2047 := by rw [GV.out]; omega
          have CS2 : Hid (cuS F n d (k + 1) = u + 1) := by show _ = _; rw [CS.out, hcv, if_neg (by omega)]
          have AP2 : Hid (∀ j, j < 64 → gpS F n d (k + 1) j = if j = k then 2047 else gpS F n d k j) := by rw [hcv] at AP; exact AP
          clear hcv GV CS AP
          go_wp2
          go_roundw
          case rel => exact ⟨k + 1, by omega, by go_num, by rw [CS2.out], tq.put k _ hlt AP2.out, setO (.inl (Ne.symm k2)) h0, setO (.inl (Ne.symm k2)) h1, rq.other _ _ (Ne.symm k1) _, fq.set _ _, Lib.hid (bq.out.setCell k3 _)⟩
          case measure => simp [intOf]; omega
        · by_cases p3 : -2047 < v
          · by_cases p4 : v < 2047
            · have hcv : c = v := by rw [GV.out]; omega
              have CS2 : Hid (cuS F n d (k + 1) = u) := by show _ = _; rw [CS.out, hcv, if_pos rfl, Int.add_zero]
              have AP2 : Hid (∀ j, j < 64 → gpS F n d (k + 1) j = if j = k then v else gpS F n d k j) := by rw [hcv] at AP; exact AP
              clear hcv GV CS AP
              go_wp2
              go_roundw
              case rel => exact ⟨k + 1, by omega, by go_num, by rw [CS2.out], tq.put k _ hlt AP2.out, setO (.inl (Ne.symm k2)) h0, setO (.inl (Ne.symm k2)) h1, rq.other _ _ (Ne.symm k1) _, fq.set _ _, Lib.hid (bq.out.setCell k3 _)⟩
              case measure => simp [intOf]; omega
            · obtain rfl : v = 2047 := by omega
              have hcv : c = 2047 := by rw [GV.out]; omega
              have CS2 : Hid (cuS F n d (k + 1) = u) := by show _ = _; rw [CS.out, hcv, if_pos rfl, Int.add_zero]
              have AP2 : Hid (∀ j, j < 64 → gpS F n d (k + 1) j = if j = k then 2047 else gpS F n d k j) := by rw [hcv] at AP; exact AP
              clear hcv GV CS AP
              go_wp2
              go_roundw
              case rel => exact ⟨k + 1, by omega, by go_num, by rw [CS2.out], tq.put k _ hlt AP2.out, setO (.inl (Ne.symm k2)) h0, setO (.inl (Ne.symm k2)) h1, rq.other _ _ (Ne.symm k1) _, fq.set _ _, Lib.hid (bq.out.setCell k3 _)⟩
              case measure => simp [intOf]; omega
          · obtain rfl : v = -2047 := by omega
            have hcv : c = -2047 := by rw [GV.out]; omega
            have CS2 : Hid (cuS F n d (k + 1) = u) := by show _ = _; rw [CS.out, hcv, if_pos rfl, Int.add_zero]
            have AP2 : Hid (∀ j, j < 64 → gpS F n d (k + 1) j = if j = k then -2047 else gpS F n d k j) := by rw [hcv] at AP; exact AP
            clear hcv GV CS AP
            go_wp2
            go_roundw
            case rel => exact ⟨k + 1, by omega, by go_num, by rw [CS2.out], tq.put k _ hlt AP2.out, setO (.inl (Ne.symm k2)) h0, setO (.inl (Ne.symm k2)) h1, rq.other _ _ (Ne.symm k1) _, fq.set _ _, Lib.hid (bq.out.setCell k3 _)⟩
            case measure => simp [intOf]; omega
    · obtain rfl : k = 64 := by omega
      have ta : RowW q 64 (gcV F n d) wr := fun i hi => by
        have := tk i hi
        unfold gpS at this
        rw [if_pos hi] at this
        exact this
      have HA := Lib.hid ta.at
      have lt50 : w.heap.size + 1 + 1 < wr.heap.size := World.block_lt_of_cell? _ _ (rk 0 (by decide))
      clear tk ta
      go_wp2_with (first
        | (go_at_call 47; (with_reducible refine (RT.out _ _ _ HA.out).mono ?_); rintro e w51 ⟨rfl, hb51⟩; have cr51 := rk.later hb51; have zr51 := fk.later rk hb51; have b51 : Hid (Below w.heap.size w w51) := Lib.hid (below_then bk.out hb51); clear hb51)
        | ((with_reducible refine wpList_store_at rfl 26 _ _ rfl _ 64 _ (fv (trS (gcV F n d) 64)) rfl rfl cr51 zr51 (fv_one _) infoV ?_); intro w52 S52 B52 cr52 zr52 O52 P52; have b52 : Hid (Below w.heap.size w w52) := Lib.hid (B52 _ _ (by omega) b51.out); clear S52 B52 O52 P52))
      refine bodyPost_ret (v := .tuple #[.agg (vls 64 (fv (trS (gcV F n d) 64))).toArray, .int .i64 (cuS F n d 64)]) ?_ rfl ⟨rfl, b52.out⟩
      have hld := load_var_at 26 _ 64 (fv (trS (gcV F n d) 64)) cr52 _ Try.underlying26 rfl infoV
      simp [results, Try.results23, asAddr, Act.put, Result.andThen, hld]
end Go.Proofs.Ytoieemgdkpnbfaa
